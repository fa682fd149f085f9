import Derived.Test.YtkoaiibjahlnmaaGreatOP
import Derived.Deep.RegionHeld3
/- StoreOrders. -/
namespace Go.Proofs.YtkoaiibjahlnmaaGreat
open Go.RowKit Go.Maps Go.Sort Orl
set_option linter.unusedVariables false
set_option linter.unusedSimpArgs false

def NE : El Int := ⟨3, 23, 1, 8, fun z => [.int .i64 z]⟩
theorem infoN : (Tryz.prog.info? 3).map (fun i => (i.zero, i.size, i.bytes)) = some (some (.int .i64 0), 1, 8) := by kernel_rfl
theorem okN : NE.Ok := by
  obtain ⟨i0, hi, hz0, hz1, hz2⟩ := info_parts infoN
  exact ⟨fun _ => rfl, fun x u hu => by simp [NE] at hu; subst hu; rfl, by decide, Tryz.underlying23, i0, _, hi, hz0, hz1, hz2, rfl⟩
theorem Sl.atN {w : World} {a : Option Addr} {c : Nat} {xs : List Int} (h : Sl NE w a c xs) {j : Nat} (hj : j < xs.length) : ∃ b off, a = some ⟨b, off, none⟩ ∧ w.cell? ⟨b, off + j, none⟩ = some (.int .i64 (xs.getD j 0)) := h.oneG okN rfl 0 hj _ rfl
theorem own_oneR (w : World) (x : RV) : Sl RE (w.alloc (.cells #[.int .i64 x.kd, .int .i64 x.wr, .int .i64 x.ma, .string x.v] 31)) (some ⟨w.heap.size, 0, none⟩) 1 [x] := by
  refine ⟨.inr ⟨_, 0, rfl, fun j u hj => ?_⟩, by simp, fun e => by cases e⟩
  rw [Nat.zero_add, cell_of_blk (blk_new w _)]
  simpa [El.cells, RE] using hj
/-- the writes, each once -/
structure Ws (rs : List RV) : Prop where
  ok : ∀ r ∈ rs, OkR r
  dd : rs.Pairwise (fun a b => idw a.wr ≠ idw b.wr)
  le : rs.length ≤ 60
/-- all that is held -/
structure OS (w wr : World) (pa : Nat) (sa : St) (Na : Nat) (pb : Nat) (sb : St) (Nb : Nat) (ol : Option Addr) (lc : Nat) (rs : List RV) : Prop where
  tw : ∃ P, Tw w wr pa sa Na pb sb Nb P ∧ ∀ b, inO ol b → P b
  own : Own RE wr ol lc rs
theorem OS.go {w wr wr' : World} {pa : Nat} {sa : St} {Na : Nat} {pb : Nat} {sb : St} {Nb : Nat} {ol : Option Addr} {lc : Nat} {rs : List RV} (h : OS w wr pa sa Na pb sb Nb ol lc rs) (hk : Keeps no wr wr') : OS w wr' pa sa Na pb sb Nb ol lc rs := by
  obtain ⟨P, h1, h2⟩ := h.tw
  exact ⟨⟨P, h1.go hk, h2⟩, h.own.keepsN hk⟩
theorem OS.swap {w wr : World} {pa : Nat} {sa : St} {Na : Nat} {pb : Nat} {sb : St} {Nb : Nat} {ol : Option Addr} {lc : Nat} {rs : List RV} (h : OS w wr pa sa Na pb sb Nb ol lc rs) : OS w wr pb sb Nb pa sa Na ol lc rs := by
  obtain ⟨P, h1, h2⟩ := h.tw
  exact ⟨⟨P, h1.swap, h2⟩, h.own⟩
theorem OS.keep {w wr : World} {pa : Nat} {sa : St} {Na : Nat} {pb : Nat} {sb : St} {Nb : Nat} {ol : Option Addr} {lc : Nat} {rs : List RV} (h : OS w wr pa sa Na pb sb Nb ol lc rs) : Keeps no w wr := by
  obtain ⟨P, h1, h2⟩ := h.tw
  exact h1.first.keep
theorem OS.push {w wr wr' : World} {pa : Nat} {sa : St} {Na : Nat} {pb : Nat} {sb : St} {Nb : Nat} {ol : Option Addr} {lc : Nat} {rs : List RV} (h : OS w wr pa sa Na pb sb Nb ol lc rs) {o' : Option Addr} {c' : Nat} {rs' : List RV} (ho : Own RE wr' o' c' rs') (ha : Ap wr ol o' wr') : OS w wr' pa sa Na pb sb Nb o' c' rs' := by
  obtain ⟨P, h1, h2⟩ := h.tw
  rcases ha with ⟨rfl, ha⟩ | ⟨⟨g, rfl, hg⟩, ha⟩
  · exact ⟨⟨P, h1.other (ha.mono h2), h2⟩, ho⟩
  · exact ⟨⟨_, h1.grow ha, fun b hb => .inr (by obtain ⟨x, e, rfl⟩ := hb; cases e; exact ⟨hg, ho.lt _ ⟨_, rfl, rfl⟩⟩)⟩, ho⟩
/-- a call on the first store -/
theorem OS.left {w wr : World} {pa : Nat} {sa : St} {Na : Nat} {pb : Nat} {sb : St} {Nb : Nat} {ol : Option Addr} {lc : Nat} {rs : List RV} (h : OS w wr pa sa Na pb sb Nb ol lc rs) : ∃ P1, Ow w wr pa sa Na P1 ∧ ∀ w2 s2 N2, Ow w w2 pa s2 N2 P1 → Keeps (fun b => ¬ P1 b) wr w2 → OS w w2 pa s2 N2 pb sb Nb ol lc rs := by
  obtain ⟨P, h1, h2⟩ := h.tw
  obtain ⟨P1, ho, hP, hb⟩ := h1.left
  exact ⟨P1, ho, fun w2 s2 N2 ho2 hk => ⟨⟨P, hb w2 s2 N2 ho2 hk, h2⟩, h.own.keeps hk (fun b hb hc => hc (hP b (h2 b hb)))⟩⟩
theorem OS.put {w wr : World} {pa : Nat} {sa : St} {Na : Nat} {pb : Nat} {sb : St} {Nb : Nat} {ol : Option Addr} {lc : Nat} {rs : List RV} (h : OS w wr pa sa Na pb sb Nb ol lc rs) (r : RV) (hr : OkR r) (now : Int) (ht : tickB now = true) (hN : Na ≤ 900000) :
    Calls Tryz.prog 10 #[.pointer (some ⟨pa, 0, none⟩), .agg #[.int .i64 r.kd, .int .i64 r.wr, .int .i64 r.ma, .string r.v], .int .i64 now] wr fun e w' => ∃ b, e = .returned (.tuple #[.bool b, .int .i64 0]) ∧ Hid (∃ Na', Na' ≤ Na + 3 ∧ OS w w' pa (putS sa r now) Na' pb sb Nb ol lc rs) := by
  obtain ⟨P1, ho, hb⟩ := h.left
  refine (ho.lput r.kd r.wr r.ma r.v now hr.wr hr.ma ht (by omega)).mono ?_
  rintro e w' ⟨he, h1⟩
  exact ⟨_, he, _, by have := miss_len sa (idw r.wr) r.ma r.v; exact Nat.add_le_add_left this _, hb _ _ _ h1.out.1 h1.out.2⟩
theorem OS.commit {w wr : World} {pa : Nat} {sa : St} {Na : Nat} {pb : Nat} {sb : St} {Nb : Nat} {ol : Option Addr} {lc : Nat} {rs : List RV} (h : OS w wr pa sa Na pb sb Nb ol lc rs) (z : Int) (now : Int) (ht : tickB now = true) (hN : Na ≤ 900000) :
    Calls Tryz.prog 12 #[.pointer (some ⟨pa, 0, none⟩), .int .u64 ((idw z : Nat) : Int), .int .i64 now] wr fun e w' => ∃ n : Nat, e = .returned (.tuple #[.int .i64 ((n : Nat) : Int), .int .i64 0]) ∧ Hid (OS w w' pa (commitS sa (idw z) now) Na pb sb Nb ol lc rs) := by
  obtain ⟨P1, ho, hb⟩ := h.left
  have := idw_lt z
  refine (ho.commit (idw z) now (by omega) this.1 ht (by omega)).mono ?_
  rintro e w' ⟨n, he, _, h1⟩
  exact ⟨n, he, hb _ _ _ h1.out.1 h1.out.2⟩
theorem restI (z y : Int) (w : World) (hz : I64 z) (h0 : 0 ≤ y) (h1 : y ≤ 1000000) : Calls Tryz.prog 11 #[.int .i64 z, .int .i64 y] w fun e w' => e = .returned (.int .i64 ((rst z y.toNat : Nat) : Int)) ∧ w' = w := by
  have := rest_any z y.toNat w hz (by omega)
  rwa [show ((y.toNat : Nat) : Int) = y by omega] at this
/-- the names of those that are committed -/
def com (D : List RV) : List Nat := (D.filter fun r => decide (rst r.kd 1 = 0)).map fun r => idw r.wr
theorem mem_com {D : List RV} {i : Nat} : i ∈ com D ↔ ∃ r ∈ D, rst r.kd 1 = 0 ∧ idw r.wr = i := by
  unfold com
  rw [List.mem_map]
  constructor
  · rintro ⟨r, hr, rfl⟩
    exact ⟨r, (List.mem_filter.1 hr).1, by simpa using (List.mem_filter.1 hr).2, rfl⟩
  · rintro ⟨r, hr, h1, rfl⟩
    exact ⟨r, List.mem_filter.2 ⟨hr, by simpa using h1⟩, rfl⟩
theorem drop_getD {α : Type} (l : List α) (k : Nat) (d : α) (h : k < l.length) : l.drop k = l.getD k d :: l.drop (k + 1) := by
  rw [List.drop_eq_getElem_cons h]
  simp [List.getD_eq_getElem?_getD, h]
/-- the put phase -/
structure Pt (rs : List RV) (D : List RV) (s : St) (N q : Nat) : Prop where
  con : Con rs s
  full : Full D s
  last : ∀ k, s.last k = 0
  le : N ≤ 3 * q
theorem pt_new (rs : List RV) : Pt rs [] St.new 0 0 := ⟨fun m v h => (by cases h), fun r hr => (by cases hr), fun k => rfl, by omega⟩
theorem putS_last (s : St) (r : RV) (now : Int) (k : Tx) : (putS s r now).last k = s.last k := by unfold putS; rw [putAll_last]
/-- the commit phase -/
structure Ct (rs : List RV) (s : St) (C : List Nat) : Prop where
  con : Con rs s
  full : Full rs s
  lst : Lst s C
  sub : ∀ i ∈ C, i ∈ com rs
theorem Ct.commit {rs : List RV} {s : St} {C : List Nat} (h : Ct rs s C) {r : RV} (hr : r ∈ rs) (hk : rst r.kd 1 = 0) (now : Int) : Ct rs (commitS s (idw r.wr) now) (idw r.wr :: C) :=
  ⟨h.con.commit _ _, h.full.commit _ _, h.lst.commit _ _, fun i hi => by
    rcases List.mem_cons.1 hi with rfl | hi
    · exact mem_com.2 ⟨r, hr, hk, rfl⟩
    · exact h.sub i hi⟩
theorem OS.keptK {w wr : World} {pa : Nat} {sa : St} {Na : Nat} {pb : Nat} {sb : St} {Nb : Nat} {ol : Option Addr} {lc : Nat} {rs : List RV} (h : OS w wr pa sa Na pb sb Nb ol lc rs) (hN : Na ≤ 1000000) :
    Calls Tryz.prog 13 #[.pointer (some ⟨pa, 0, none⟩)] wr fun e w' => ∃ o n c ks, e = .returned (.slice o n c) ∧ Hid (Kd sa ks o n c w' ∧ OS w w' pa sa Na pb sb Nb ol lc rs ∧ Keeps no wr w') := by
  obtain ⟨P, htw, hP⟩ := h.tw
  refine (htw.first.keptK hN).mono ?_
  rintro e w' ⟨o, n, c, ks, he, hh⟩
  exact ⟨o, n, c, ks, he, hh.out.1, h.go hh.out.2.2.1, hh.out.2.2.1⟩
theorem OS.lastsK {w wr : World} {pa : Nat} {sa : St} {Na : Nat} {pb : Nat} {sb : St} {Nb : Nat} {ol : Option Addr} {lc : Nat} {rs : List RV} (h : OS w wr pa sa Na pb sb Nb ol lc rs) (hN : Na ≤ 1000000) :
    Calls Tryz.prog 15 #[.pointer (some ⟨pa, 0, none⟩)] wr fun e w' => ∃ o n c ls, e = .returned (.slice o n c) ∧ Hid (Ld sa ls o n c w' ∧ OS w w' pa sa Na pb sb Nb ol lc rs ∧ Keeps no wr w') := by
  obtain ⟨P, htw, hP⟩ := h.tw
  refine (htw.first.lastsK hN).mono ?_
  rintro e w' ⟨o, n, c, ls, he, hh⟩
  exact ⟨o, n, c, ls, he, hh.out.1, h.go hh.out.2.2.1, hh.out.2.2.1⟩
theorem com_cons {r : RV} {D : List RV} {i : Nat} (h : i ∈ com (r :: D)) : (rst r.kd 1 = 0 ∧ i = idw r.wr) ∨ i ∈ com D := by
  obtain ⟨q, hq, h1, h2⟩ := mem_com.1 h
  rcases List.mem_cons.1 hq with rfl | hq
  · exact .inl ⟨h1, h2.symm⟩
  · exact .inr (mem_com.2 ⟨q, hq, h1, h2⟩)
theorem com_snoc {r : RV} {D : List RV} {i : Nat} (h : i ∈ com (D ++ [r])) : (rst r.kd 1 = 0 ∧ i = idw r.wr) ∨ i ∈ com D := by
  obtain ⟨q, hq, h1, h2⟩ := mem_com.1 h
  rcases List.mem_append.1 hq with hq | hq
  · exact .inr (mem_com.2 ⟨q, hq, h1, h2⟩)
  · simp at hq; subst hq; exact .inl ⟨h1, h2.symm⟩
set_option maxRecDepth 10000 in
set_option maxHeartbeats 20000000 in
theorem orders_any (w : World) (a : Option Addr) (n c : Nat) (xs : List RV) (hn : n = xs.length) (hl : xs.length ≤ 140737488355328) (hs : Sl RE w a c xs) (hr : ∀ r ∈ xs, OkR r) (a1 : Option Addr) (n1 c1 : Nat) (ps : List Int) (hn1 : n1 = ps.length) (hl1 : ps.length ≤ 140737488355328) (hs1 : Sl NE w a1 c1 ps) (hr1 : ∀ z ∈ ps, I64 z) (a2 : Option Addr) (n2 c2 : Nat) (cs : List Int) (hn2 : n2 = cs.length) (hl2 : cs.length ≤ 140737488355328) (hs2 : Sl NE w a2 c2 cs) (hr2 : ∀ z ∈ cs, I64 z) :
    Calls Tryz.prog 3 #[.slice a n c, .slice a1 n1 c1, .slice a2 n2 c2] w fun e w' => e = .returned (.bool true) ∧ Keeps no w w' := by
  have HA : Hid (n = xs.length ∧ n1 = ps.length ∧ n2 = cs.length ∧ Sl RE w a c xs ∧ (∀ r ∈ xs, OkR r) ∧ Sl NE w a1 c1 ps ∧ (∀ z ∈ ps, I64 z) ∧ Sl NE w a2 c2 cs ∧ (∀ z ∈ cs, I64 z)) := ⟨hn, hn1, hn2, hs, hr, hs1, hr1, hs2, hr2⟩
  have hA : (n : Int) ≤ 140737488355328 := by omega
  have hA1 : (n1 : Int) ≤ 140737488355328 := by omega
  have hA2 : (n2 : Int) ≤ 140737488355328 := by omega
  have hN := ow_new w
  clear hn hl hs hr hn1 hl1 hs1 hr1 hn2 hl2 hs2 hr2
  go_enter Tryz.func3, Tryz.ntmps3
  go_wp2_with fail
  refine hN.mono ?_
  rintro e w1 ⟨pa, rfl, h1⟩
  clear hN
  go_wp2_with fail
  refine (ow_new w1).mono ?_
  rintro e w2 ⟨pb, rfl, h2⟩
  have H2 : Hid (Tw w w2 pa St.new 0 pb St.new 0 no) := Tw.made h1.out h2.out
  clear h1 h2
  go_wp2_with fail
  refine (known_any w2).mono ?_
  rintro e w3 ⟨rfl, hk3⟩
  have H3 : Hid (OS w w3 pa St.new 0 pb St.new 0 none 0 [] ∧ Ws []) := ⟨⟨⟨no, H2.out.go hk3, fun b hb => by obtain ⟨x, e, _⟩ := hb; cases e⟩, own_nil _⟩, ⟨(fun r hr => by cases hr), List.Pairwise.nil, by simp⟩⟩
  clear hk3 H2
  go_upto_block 0 with fail
  go_cut [9, 10, 11, 12] from 35 to 74 (fun s9 _ _ _ wc => ∃ (ol : Option Addr) (ln lc : Nat), s9 = .slice ol ln lc ∧ Hid (∃ rs, OS w wc pa St.new 0 pb St.new 0 ol lc rs ∧ Ws rs ∧ ln = rs.length))
  case first =>
    go_wp2_with fail
    go_loopw [9, 10] (fun s9 s10 wr => ∃ (k : Nat) (ol : Option Addr) (ln lc : Nat), k ≤ n ∧ k ≤ 60 ∧ s10 = .int .i64 k ∧ s9 = .slice ol ln lc ∧ Hid (∃ rs, OS w wr pa St.new 0 pb St.new 0 ol lc rs ∧ Ws rs ∧ ln = rs.length ∧ rs.length ≤ k)) (fun _ i _ => n - (intOf i).toNat)
    case atStart => exact ⟨0, none, 0, 0, by omega, by omega, rfl, rfl, [], H3.out.1, H3.out.2, rfl, Nat.le_refl _⟩
    case round =>
      obtain ⟨k, ol, ln, lc, hk, hk2, rfl, rfl, HG⟩ := hrel
      clear H3
      obtain ⟨rs, HG⟩ := HG.out
      have H4 : Hid (OS w wr pa St.new 0 pb St.new 0 ol lc rs ∧ Ws rs ∧ ln = rs.length ∧ rs.length ≤ k) := HG
      have hlnb : (ln : Int) ≤ 60 := by have := HG.2.2.1; have := HG.2.1.le; omega
      clear HG
      by_cases hlt : k < n ∧ k < 60
      · obtain ⟨hlt, hlt2⟩ := hlt
        have h3 : (k : Int) < n := by omega
        have h4 : (k : Int) < 60 := by omega
        have hka : k < xs.length := by have := HA.out.1; omega
        obtain ⟨r, hr⟩ : ∃ r, r = xs.getD k rv0 := ⟨_, rfl⟩
        have HR : Hid (OkR r ∧ r = xs.getD k rv0 ∧ k < xs.length) := ⟨(show OkR r by rw [hr]; exact HA.out.2.2.2.2.1 _ (getD_mem_lt _ hka)), hr, hka⟩
        obtain ⟨rk, rn, rm, rt⟩ := r
        clear hka hr
        have hid := fun W => id_any rn W HR.out.1.wr
        obtain ⟨i, hi⟩ : ∃ i, i = idw rn := ⟨_, rfl⟩
        rw [← hi] at hid
        have HI : Hid (i = idw rn) := hi
        clear hi
        go_wp2_with fail
        go_loopw [11, 12] (fun s11 s12 wq => ∃ (t : Nat) (B : Bool), t ≤ ln ∧ s12 = .int .i64 t ∧ s11 = .bool B ∧ Hid (B = true ↔ ∀ u, u < t → idw (rs.getD u rv0).wr ≠ i) ∧ Hid (Keeps no wr wq)) (fun _ t _ => ln - (intOf t).toNat)
        case atStart => exact ⟨0, true, by omega, rfl, rfl, ⟨fun _ u hu => absurd hu (Nat.not_lt_zero _), fun _ => rfl⟩, Keeps.refl _ _⟩
        case round =>
          obtain ⟨t, B, ht, rfl, rfl, HB, HKQ⟩ := hrel
          rename World => wq
          obtain ⟨b1, off1, e1, d1, d2, d3, d4⟩ := (HA.out.2.2.2.1.keepsN (H4.out.1.keep.trans HKQ.out)).atR HR.out.2.2
          rw [← HR.out.2.1] at d1 d2 d3 d4
          simp only at d1 d2 d3 d4
          by_cases htl : t < ln
          · have htl' : (t : Int) < ln := by omega
            have hta : t < rs.length := by have := H4.out.2.2.1; omega
            obtain ⟨b2, off2, e2, f1, f2, f3, f4⟩ := (H4.out.1.own.keepsN HKQ.out).sl.atR hta
            have hokq := H4.out.2.1.ok _ (getD_mem_lt rv0 hta)
            obtain ⟨qn, hqn⟩ : ∃ qn, qn = (rs.getD t rv0).wr := ⟨_, rfl⟩
            rw [← hqn] at f2
            have hid2 := fun W => id_any qn W (by rw [hqn]; exact hokq.wr)
            obtain ⟨i2, hi2⟩ : ∃ i2, i2 = idw qn := ⟨_, rfl⟩
            rw [← hi2] at hid2
            have HI2 : Hid (i2 = idw (rs.getD t rv0).wr) := hi2.trans (by rw [hqn])
            clear hta hokq hqn hi2 f1 f3 f4 d1 d3 d4
            subst e1 e2
            have c1 := call_grown (W := wq) (f := 9) (args := #[.int .i64 qn]) (v := .int .u64 ((i2 : Nat) : Int)) (fun X hX => (hid2 X).mono (fun e w' h => ⟨h.1, by rw [h.2]; exact Keeps.refl _ _⟩))
            have c2 := call_grown (W := wq) (f := 9) (args := #[.int .i64 rn]) (v := .int .u64 ((i : Nat) : Int)) (fun X hX => (hid X).mono (fun e w' h => ⟨h.1, by rw [h.2]; exact Keeps.refl _ _⟩))
            have z1 := cell_regrown d2
            have z2 := cell_regrown f2
            clear hid2 d2 f2
            cases B with
            | false =>
              have HNB : Hid (¬ ∀ u, u < t → idw (rs.getD u rv0).wr ≠ i) := fun h => by have := HB.out.2 h; cases this
              clear HB
              go_wp2_with fail
              refine wp_region_quiet_below (by kernel_rfl) (by kernel_rfl) ?_
              repeat (go_big_quiet_step (fail))
              refine wpQuiet_nil ?_
              intro _ hw'
              obtain ⟨⟨dq, osq⟩, rfl⟩ := hw'
              have H5 : Hid (Keeps no wr (Sort.grow (redrawn wq dq) osq)) := HKQ.out.trans (keeps_grownQ ..)
              generalize Sort.grow (redrawn wq dq) osq = w5 at H5 ⊢
              clear c1 c2 z1 z2
              go_wp2_with fail
              go_roundw
              case rel => exact ⟨t + 1, false, by omega, by go_num, rfl, ⟨(fun h => by cases h), fun h => absurd (fun u hu => h u (by omega)) HNB.out⟩, H5⟩
              case measure => simp [intOf]; omega
            | true =>
              have HAB : Hid (∀ u, u < t → idw (rs.getD u rv0).wr ≠ i) := HB.out.1 rfl
              clear HB
              go_wp2_with fail
              refine wp_region_quiet_below (by kernel_rfl) (by kernel_rfl) ?_
              repeat (go_big_quiet_step (first | (go_at_call_of 9 (Value.int .i64 qn); exact c1 _ _) | (go_at_call_of 9 (Value.int .i64 rn); exact c2 _ _)))
              refine wpQuiet_nil ?_
              intro _ hw'
              obtain ⟨⟨dq, osq⟩, rfl⟩ := hw'
              have H5 : Hid (Keeps no wr (Sort.grow (redrawn wq dq) osq)) := HKQ.out.trans (keeps_grownQ ..)
              generalize Sort.grow (redrawn wq dq) osq = w5 at H5 ⊢
              clear c1 c2 z1 z2
              go_wp2_with fail
              go_roundw
              case rel =>
                refine ⟨t + 1, (((i2 : Nat) : Int) != ((i : Nat) : Int)), by omega, by go_num, rfl, ⟨fun hh u hu => ?_, fun hh => ?_⟩, H5⟩
                · by_cases e : u = t
                  · subst e
                    rw [← HI2.out]
                    intro e'
                    rw [e'] at hh
                    simp at hh
                  · exact HAB.out u (by omega)
                · have h5 := hh t (by omega)
                  rw [← HI2.out] at h5
                  simp
                  omega
              case measure => simp [intOf]; omega
          · have htl' : ¬ (t : Int) < ln := by omega
            have H5 : Hid (OS w wq pa St.new 0 pb St.new 0 ol lc rs) := H4.out.1.go HKQ.out
            cases B with
            | false =>
              clear HB d1 d2 d3 d4
              go_wp2_with fail
              go_roundw
              case rel => exact ⟨k + 1, ol, ln, lc, by omega, by omega, by go_num, rfl, rs, H5.out, H4.out.2.1, H4.out.2.2.1, Nat.le_succ_of_le H4.out.2.2.2⟩
              case measure => simp [intOf]; omega
            | true =>
              have HAB : Hid (∀ r' ∈ rs, idw r'.wr ≠ i) := fun r' hr' => by
                obtain ⟨u, hu, rfl⟩ := List.getElem_of_mem hr'
                have := HB.out.1 rfl u (by have := H4.out.2.2.1; omega)
                rwa [show rs.getD u rv0 = rs[u] by simp [List.getD_eq_getElem?_getD, hu]] at this
              have HBD : Hid (rs.length ≤ 60) := H4.out.2.1.le
              clear HB
              subst e1
              go_wp2_with (at_builtin; refine wpList_app okR rfl _ _ rfl _ _ _ rs rfl H4.out.2.2.1 (H5.out.own.keepsN ((Keeps.refl _ _).alloc _)) _ _ _ [⟨rk, rn, rm, rt⟩] rfl rfl (fun h => by cases h) (own_oneR _ ⟨rk, rn, rm, rt⟩).row (by have := HBD.out; simp [RE]; omega) (by have := HBD.out; simp; omega) ?_; intro o6 c6 w6 ho6 hap6)
              go_roundw
              case rel =>
                refine ⟨k + 1, o6, ln + 1, c6, by omega, by omega, by go_num, rfl, rs ++ [⟨rk, rn, rm, rt⟩], (H5.out.go ((Keeps.refl no wq).alloc _)).push ho6 hap6, ⟨fun r hr => ?_, ?_, ?_⟩, ?_, ?_⟩
                · rcases List.mem_append.1 hr with hr | hr
                  · exact H4.out.2.1.ok r hr
                  · simp at hr; subst hr; exact HR.out.1
                · rw [List.pairwise_append]
                  refine ⟨H4.out.2.1.dd, by simp, fun x hx y hy => ?_⟩
                  simp at hy; subst hy
                  rw [← HI.out]
                  exact HAB.out x hx
                · have := H4.out.2.2.2; simp; omega
                · rw [List.length_append, ← H4.out.2.2.1]; rfl
                · have := H4.out.2.2.2; simp; omega
              case measure => simp [intOf]; omega
      · have hcc : (k : Int) < n ∨ ¬ (k : Int) < n := by omega
        rcases hcc with h3 | h3
        · have h4 : ¬ (k : Int) < 60 := by omega
          go_wp2_with fail
          go_meet
          exact ⟨ol, ln, lc, rfl, rs, H4.out.1, H4.out.2.1, H4.out.2.2.1⟩
        · go_wp2_with fail
          go_meet
          exact ⟨ol, ln, lc, rfl, rs, H4.out.1, H4.out.2.1, H4.out.2.2.1⟩
  case rest =>
  obtain ⟨ol, ln, lc, rfl, HG⟩ := hcut
  rename World => wa
  clear H3
  obtain ⟨rs, HG⟩ := HG.out
  have H4 : Hid (OS w wa pa St.new 0 pb St.new 0 ol lc rs ∧ Ws rs ∧ ln = rs.length) := HG
  have HW : Hid (Ws rs ∧ ln = rs.length) := HG.2
  have hlnb : (ln : Int) ≤ 60 := by have := HG.2.2; have := HG.2.1.le; omega
  clear HG
  -- a's Puts
  go_upto_block 4 with fail
  go_cut [13] from 75 to 86 (fun _ wc => Hid (∃ sa Na, OS w wc pa sa Na pb St.new 0 ol lc rs ∧ Pt rs rs sa Na 60))
  case first =>
    go_wp2_with fail
    go_loopw [13] (fun s13 wq => ∃ t : Nat, t ≤ ln ∧ s13 = .int .i64 t ∧ Hid (∃ sa Na, OS w wq pa sa Na pb St.new 0 ol lc rs ∧ Pt rs (rs.take t) sa Na t)) (fun t _ => ln - (intOf t).toNat)
    case atStart => exact ⟨0, by omega, rfl, _, _, H4.out.1, by simpa using pt_new rs⟩
    case round =>
      obtain ⟨t, ht, rfl, HT⟩ := hrel
      rename World => wq
      clear H4
      obtain ⟨sa, Na, HT⟩ := HT.out
      have H5 : Hid (OS w wq pa sa Na pb St.new 0 ol lc rs ∧ Pt rs (rs.take t) sa Na t) := HT
      clear HT
      by_cases htl : t < ln
      · have htl' : (t : Int) < ln := by omega
        have hta : t < rs.length := by have := HW.out.2; omega
        obtain ⟨b2, off2, e2, f1, f2, f3, f4⟩ := H5.out.1.own.sl.atR hta
        obtain ⟨r, hr⟩ : ∃ r, r = rs.getD t rv0 := ⟨_, rfl⟩
        rw [← hr] at f1 f2 f3 f4
        have HR : Hid (r = rs.getD t rv0 ∧ t < rs.length ∧ r ∈ rs) := ⟨hr, hta, by rw [hr]; exact getD_mem_lt _ hta⟩
        have HP : Hid (Calls Tryz.prog 10 #[.pointer (some ⟨pa, 0, none⟩), .agg #[.int .i64 r.kd, .int .i64 r.wr, .int .i64 r.ma, .string r.v], .int .i64 0] wq fun e w' => ∃ b, e = .returned (.tuple #[.bool b, .int .i64 0]) ∧ Hid (∃ Na', Na' ≤ Na + 3 ∧ OS w w' pa (putS sa r 0) Na' pb St.new 0 ol lc rs)) := H5.out.1.put r (HW.out.1.ok r HR.out.2.2) 0 (by decide) (by have := H5.out.2.le; omega)
        obtain ⟨rk, rn, rm, rt⟩ := r
        simp only at f1 f2 f3 f4 HP
        clear hta hr
        subst e2
        go_wp2_with fail
        refine Calls.mono HP.out ?_
        rintro e w6 ⟨bb, rfl, h6⟩
        go_wp2_with fail
        go_roundw
        case rel =>
          obtain ⟨Na', hN', ho⟩ := h6.out
          refine ⟨t + 1, by omega, by go_num, _, Na', ho, H5.out.2.con.put HR.out.2.2 0, ?_, fun k => by rw [putS_last]; exact H5.out.2.last k, by have := H5.out.2.le; omega⟩
          rw [take_succ_getD rs t rv0 HR.out.2.1, ← HR.out.1]
          exact H5.out.2.full.put _ 0
        case measure => simp [intOf]; omega
      · have htl' : ¬ (t : Int) < ln := by omega
        go_wp2_with fail
        go_meet
        have e1 : rs.take t = rs := List.take_of_length_le (by have := HW.out.2; omega)
        have hpt := H5.out.2
        rw [e1] at hpt
        exact ⟨sa, Na, H5.out.1, hpt.con, hpt.full, hpt.last, by have := hpt.le; omega⟩
  case rest =>
  rename World => wb
  clear H4
  obtain ⟨sa, Na, HG⟩ := hcut.out
  have H5 : Hid (OS w wb pa sa Na pb St.new 0 ol lc rs ∧ Pt rs rs sa Na 60) := HG
  clear HG hcut
  -- b's Puts, any
  go_upto_block 6 with fail
  go_cut [14] from 87 to 119 (fun _ wc => Hid (∃ sb Nb, OS w wc pa sa Na pb sb Nb ol lc rs ∧ Pt rs [] sb Nb 200))
  case first =>
    go_wp2_with fail
    go_loopw [14] (fun s14 wq => ∃ t : Nat, t ≤ n1 ∧ t ≤ 200 ∧ s14 = .int .i64 t ∧ Hid (∃ sb Nb, OS w wq pa sa Na pb sb Nb ol lc rs ∧ Pt rs [] sb Nb t)) (fun t _ => n1 - (intOf t).toNat)
    case atStart => exact ⟨0, by omega, by omega, rfl, _, _, H5.out.1, pt_new rs⟩
    case round =>
      obtain ⟨t, ht, ht2, rfl, HT⟩ := hrel
      rename World => wq
      obtain ⟨sb, Nb, HT⟩ := HT.out
      have H6 : Hid (OS w wq pa sa Na pb sb Nb ol lc rs ∧ Pt rs [] sb Nb t) := HT
      clear HT H5
      by_cases hc : t < n1 ∧ 0 < ln ∧ t < 200
      · obtain ⟨q1, q2, q3⟩ := hc
        have q1' : (t : Int) < n1 := by omega
        have q2' : (0 : Int) < ln := by omega
        have q3' : (t : Int) < 200 := by omega
        have hta : t < ps.length := by have := HA.out.2.1; omega
        have HZ : ∃ z : Int, z = ps.getD t 0 := ⟨_, rfl⟩
        obtain ⟨z, hz⟩ := HZ
        have hzi : I64 z := by rw [hz]; exact HA.out.2.2.2.2.2.2.1 _ (getD_mem_lt _ hta)
        obtain ⟨q, hq⟩ : ∃ q : Nat, q = rst z ((ln : Int) - 1).toNat := ⟨_, rfl⟩
        obtain ⟨tk, htk⟩ : ∃ tk : Nat, tk = rst z 9 := ⟨_, rfl⟩
        have htk9 : tk ≤ 9 := by rw [htk]; exact rst_le z 9
        have hql : q < ln := by have := rst_le z ((ln : Int) - 1).toNat; omega
        have hql' : (q : Int) < ln := by omega
        have hwr : IntKind.i64.wrap ((ln : Int) - 1) = (ln : Int) - 1 := by rw [IntKind.wrap_i64]; omega
        have HE1 : Hid (rst z (IntKind.i64.wrap ((ln : Int) - 1)).toNat = q) := by show _ = _; rw [hwr, hq]
        have HE9 : Hid (rst z (9 : Int).toNat = tk) := by show _ = _; rw [htk]; rfl
        have HY : Hid (0 ≤ IntKind.i64.wrap ((ln : Int) - 1) ∧ IntKind.i64.wrap ((ln : Int) - 1) ≤ 1000000) := by show _ ∧ _; rw [hwr]; omega
        have HZI : Hid (I64 z) := hzi
        have hqa : q < rs.length := by have := HW.out.2; omega
        obtain ⟨b1, off1, e1, _⟩ := (HA.out.2.2.2.2.2.1.keepsN H6.out.1.keep).atN hta
        obtain ⟨b2, off2, e2, _⟩ := H6.out.1.own.sl.atR hqa
        obtain ⟨r, hr⟩ : ∃ r, r = rs.getD q rv0 := ⟨_, rfl⟩
        have HST : Hid (∀ X, Keeps no w X → Sl RE X ol lc rs → X.cell? ⟨b1, off1 + t, none⟩ = some (.int .i64 z) ∧ X.cell? ⟨b2, off2 + q * 4, none⟩ = some (.int .i64 r.kd) ∧ X.cell? ⟨b2, off2 + q * 4 + 1, none⟩ = some (.int .i64 r.wr) ∧ X.cell? ⟨b2, off2 + q * 4 + 2, none⟩ = some (.int .i64 r.ma) ∧ X.cell? ⟨b2, off2 + q * 4 + 3, none⟩ = some (.string r.v)) := fun X hX hS => by
          obtain ⟨b1', off1', e1', d1⟩ := (HA.out.2.2.2.2.2.1.keepsN hX).atN hta
          obtain ⟨b2', off2', e2', f1, f2, f3, f4⟩ := hS.atR hqa
          rw [e1] at e1'
          rw [e2] at e2'
          cases e1'
          cases e2'
          rw [hz, hr]
          exact ⟨d1, f1, f2, f3, f4⟩
        have HRM : Hid (r ∈ rs) := by show r ∈ rs; rw [hr]; exact getD_mem_lt _ hqa
        have HP : Hid (∀ X, Keeps no wq X → Calls Tryz.prog 10 #[.pointer (some ⟨pb, 0, none⟩), .agg #[.int .i64 r.kd, .int .i64 r.wr, .int .i64 r.ma, .string r.v], .int .i64 ((tk : Nat) : Int)] X fun e w' => ∃ b, e = .returned (.tuple #[.bool b, .int .i64 0]) ∧ Hid (∃ Nb', Nb' ≤ Nb + 3 ∧ OS w w' pb (putS sb r tk) Nb' pa sa Na ol lc rs)) := fun X hX => (H6.out.1.go hX).swap.put r (HW.out.1.ok r HRM.out) tk (tick_iff.2 ⟨by omega, by omega⟩) (by have := H6.out.2.le; omega)
        clear hz hq htk hqa hta hr hzi htk9 hwr
        obtain ⟨rk, rn, rm, rt⟩ := r
        simp only at HST HP
        subst e1 e2
        go_wp2_with fail
        go_region_held3 (fun X => X.cell? ⟨b1, off1 + t, none⟩ = some (.int .i64 z) ∧ X.cell? ⟨b2, off2 + q * 4, none⟩ = some (.int .i64 rk) ∧ X.cell? ⟨b2, off2 + q * 4 + 1, none⟩ = some (.int .i64 rn) ∧ X.cell? ⟨b2, off2 + q * 4 + 2, none⟩ = some (.int .i64 rm) ∧ X.cell? ⟨b2, off2 + q * 4 + 3, none⟩ = some (.string rt)) (first | exact HST.out _ KP.out.1 KP.out.2 | exact HST.out _ H6.out.1.keep H6.out.1.own.sl | exact HST.out _ H6.out.1.keep.drew (H6.out.1.own.sl.keepsN ((Keeps.refl no wq).drew))) ((first | (go_at_call 11; refine (restI z _ _ HZI.out (by first | decide | exact HY.out.1) (by first | decide | exact HY.out.2)).mono ?_; rintro e w' ⟨rfl, rfl⟩; first | rw [HE9.out] | rw [HE1.out]) | (go_at_call 10; refine (HP.out _ ((Keeps.refl no wq).drew)).mono ?_; rintro e w6 ⟨bb, rfl, h6⟩; have KP : Hid (Keeps no w w6 ∧ Sl RE w6 (some ⟨b2, off2, none⟩) lc rs) := (by obtain ⟨_, _, ho⟩ := h6.out; exact ⟨ho.keep, ho.own.sl⟩))))
        go_wp2_with fail
        go_roundw
        case rel =>
          obtain ⟨Nb', hN', ho⟩ := h6.out
          exact ⟨t + 1, by omega, by omega, by go_num, _, Nb', ho.swap, H6.out.2.con.put HRM.out _, (fun r hr => by cases hr), fun k => by rw [putS_last]; exact H6.out.2.last k, by have := H6.out.2.le; omega⟩
        case measure => simp [intOf]; omega
      · have hcc : ¬ (t : Int) < n1 ∨ ((t : Int) < n1 ∧ ¬ (0 : Int) < ln) ∨ ((t : Int) < n1 ∧ (0 : Int) < ln ∧ ¬ (t : Int) < 200) := by omega
        have HF : Hid (∃ sb Nb, OS w wq pa sa Na pb sb Nb ol lc rs ∧ Pt rs [] sb Nb 200) := ⟨sb, Nb, H6.out.1, H6.out.2.con, H6.out.2.full, H6.out.2.last, by have := H6.out.2.le; omega⟩
        rcases hcc with g1 | ⟨g1, g2⟩ | ⟨g1, g2, g3⟩
        · go_wp2_with fail
          go_meet
          exact HF.out
        · go_wp2_with fail
          go_meet
          exact HF.out
        · go_wp2_with fail
          go_meet
          exact HF.out
  case rest =>
  rename World => wc
  obtain ⟨sb, Nb, HG⟩ := hcut.out
  have H6 : Hid (OS w wc pa sa Na pb sb Nb ol lc rs ∧ Pt rs [] sb Nb 200) := HG
  have HPA : Hid (Pt rs rs sa Na 60) := H5.out.2
  clear HG hcut H5
  -- b's Puts, all
  go_upto_block 8 with fail
  go_cut [15] from 120 to 135 (fun _ wd => Hid (∃ sb Nb, OS w wd pa sa Na pb sb Nb ol lc rs ∧ Pt rs rs sb Nb 300))
  case first =>
    go_wp2_with fail
    go_loopw [15] (fun s15 wq => ∃ t : Nat, t ≤ ln ∧ s15 = .int .i64 t ∧ Hid (∃ sb Nb, OS w wq pa sa Na pb sb Nb ol lc rs ∧ Pt rs (rs.drop (ln - t)) sb Nb (200 + t))) (fun t _ => ln - (intOf t).toNat)
    case atStart => exact ⟨0, by omega, rfl, _, _, H6.out.1, H6.out.2.con, (fun r hr => by rw [Nat.sub_zero, HW.out.2, List.drop_length] at hr; cases hr), H6.out.2.last, by have := H6.out.2.le; omega⟩
    case round =>
      obtain ⟨t, ht, rfl, HT⟩ := hrel
      rename World => wq
      obtain ⟨sb, Nb, HT⟩ := HT.out
      have H7 : Hid (OS w wq pa sa Na pb sb Nb ol lc rs ∧ Pt rs (rs.drop (ln - t)) sb Nb (200 + t)) := HT
      clear HT H6
      by_cases htl : t < ln
      · have htl' : (t : Int) < ln := by omega
        obtain ⟨q, hq⟩ : ∃ q : Nat, (ln : Int) - 1 - t = (q : Int) := ⟨ln - 1 - t, by omega⟩
        have hqa : q < rs.length := by have := HW.out.2; omega
        have hql' : (q : Int) < ln := by omega
        obtain ⟨b2, off2, e2, f1, f2, f3, f4⟩ := H7.out.1.own.sl.atR hqa
        obtain ⟨r, hr⟩ : ∃ r, r = rs.getD q rv0 := ⟨_, rfl⟩
        rw [← hr] at f1 f2 f3 f4
        have HR : Hid (r = rs.getD q rv0 ∧ q < rs.length ∧ r ∈ rs) := ⟨hr, hqa, by rw [hr]; exact getD_mem_lt _ hqa⟩
        have HP : Hid (Calls Tryz.prog 10 #[.pointer (some ⟨pb, 0, none⟩), .agg #[.int .i64 r.kd, .int .i64 r.wr, .int .i64 r.ma, .string r.v], .int .i64 0] wq fun e w' => ∃ b, e = .returned (.tuple #[.bool b, .int .i64 0]) ∧ Hid (∃ Nb', Nb' ≤ Nb + 3 ∧ OS w w' pb (putS sb r 0) Nb' pa sa Na ol lc rs)) := H7.out.1.swap.put r (HW.out.1.ok r HR.out.2.2) 0 (by decide) (by have := H7.out.2.le; omega)
        obtain ⟨rk, rn, rm, rt⟩ := r
        simp only at f1 f2 f3 f4 HP
        clear hqa hr
        subst e2
        have HQ : Hid (ln = q + 1 + t) := by show ln = q + 1 + t; omega
        go_wp2_with fail
        refine Calls.mono HP.out ?_
        rintro e w6 ⟨bb, rfl, h6⟩
        go_wp2_with fail
        go_roundw
        case rel =>
          obtain ⟨Nb', hN', ho⟩ := h6.out
          refine ⟨t + 1, by omega, by go_num, _, Nb', ho.swap, H7.out.2.con.put HR.out.2.2 0, ?_, fun k => by rw [putS_last]; exact H7.out.2.last k, by have := H7.out.2.le; omega⟩
          have hh := H7.out.2.full
          rw [show ln - t = q + 1 by have := HQ.out; omega] at hh
          rw [show ln - (t + 1) = q by have := HQ.out; omega, drop_getD rs q rv0 HR.out.2.1, ← HR.out.1]
          exact hh.cons _ 0
        case measure => simp [intOf]; omega
      · have htl' : ¬ (t : Int) < ln := by omega
        go_wp2_with fail
        go_meet
        have hpt := H7.out.2
        rw [show ln - t = 0 by omega, List.drop_zero] at hpt
        exact ⟨sb, Nb, H7.out.1, hpt.con, hpt.full, hpt.last, by have := hpt.le; omega⟩
  case rest =>
  rename World => wd
  obtain ⟨sb', Nb', HG⟩ := hcut.out
  have H7 : Hid (OS w wd pa sa Na pb sb' Nb' ol lc rs) := HG.1
  have HNB : Hid (Na ≤ 1000 ∧ Nb' ≤ 1000) := ⟨by have := HPA.out.le; omega, by have := HG.2.le; omega⟩
  have HCA : Hid (Ct rs sa []) := ⟨HPA.out.con, HPA.out.full, lst_new HPA.out.last, fun i hi => by cases hi⟩
  have HCB : Hid (Ct rs sb' []) := ⟨HG.2.con, HG.2.full, lst_new HG.2.last, fun i hi => by cases hi⟩
  clear HG hcut H6 HPA
  -- a's Commits
  go_upto_block 10 with fail
  go_cut [16] from 136 to 156 (fun _ we => Hid (∃ sa C, OS w we pa sa Na pb sb' Nb' ol lc rs ∧ Ct rs sa C ∧ ∀ i ∈ com rs, i ∈ C))
  case first =>
    go_wp2_with fail
    go_loopw [16] (fun s16 wq => ∃ t : Nat, t ≤ ln ∧ s16 = .int .i64 t ∧ Hid (∃ sa C, OS w wq pa sa Na pb sb' Nb' ol lc rs ∧ Ct rs sa C ∧ ∀ i ∈ com (rs.take t), i ∈ C)) (fun t _ => ln - (intOf t).toNat)
    case atStart => exact ⟨0, by omega, rfl, _, _, H7.out, HCA.out, fun i hi => by obtain ⟨r, hr, _⟩ := mem_com.1 hi; simp at hr⟩
    case round =>
      obtain ⟨t, ht, rfl, HT⟩ := hrel
      rename World => wq
      obtain ⟨s1, C, HT⟩ := HT.out
      have H8 : Hid (OS w wq pa s1 Na pb sb' Nb' ol lc rs ∧ Ct rs s1 C ∧ ∀ i ∈ com (rs.take t), i ∈ C) := HT
      clear HT H7
      by_cases htl : t < ln
      · have htl' : (t : Int) < ln := by omega
        have hta : t < rs.length := by have := HW.out.2; omega
        obtain ⟨b2, off2, e2, f1, f2, f3, f4⟩ := H8.out.1.own.sl.atR hta
        obtain ⟨r, hr⟩ : ∃ r, r = rs.getD t rv0 := ⟨_, rfl⟩
        rw [← hr] at f1 f2 f3 f4
        have HR : Hid (r = rs.getD t rv0 ∧ t < rs.length ∧ r ∈ rs) := ⟨hr, hta, by rw [hr]; exact getD_mem_lt _ hta⟩
        have hok := HW.out.1.ok r HR.out.2.2
        have HP : Hid (Calls Tryz.prog 12 #[.pointer (some ⟨pa, 0, none⟩), .int .u64 ((idw r.wr : Nat) : Int), .int .i64 1] wq fun e w' => ∃ n : Nat, e = .returned (.tuple #[.int .i64 ((n : Nat) : Int), .int .i64 0]) ∧ Hid (OS w w' pa (commitS s1 (idw r.wr) 1) Na pb sb' Nb' ol lc rs)) := H8.out.1.commit r.wr 1 (by decide) (by have := HNB.out; omega)
        obtain ⟨q, hq⟩ : ∃ q : Nat, q = rst r.kd 1 := ⟨_, rfl⟩
        have HQ1 : Hid (∀ W, Calls Tryz.prog 11 #[.int .i64 r.kd, .int .i64 1] W fun e w' => e = .returned (.int .i64 ((q : Nat) : Int)) ∧ w' = W) := fun W => by rw [hq]; exact restI r.kd 1 W hok.kd (by omega) (by omega)
        have HI : Hid (∀ W, Calls Tryz.prog 9 #[.int .i64 r.wr] W fun e w' => e = .returned (.int .u64 ((idw r.wr : Nat) : Int)) ∧ w' = W) := fun W => id_any r.wr W hok.wr
        have HQ : Hid (q = rst r.kd 1) := hq
        have HTK : Hid (rs.take (t + 1) = rs.take t ++ [r]) := by show _ = _; rw [take_succ_getD rs t rv0 hta, ← hr]
        obtain ⟨rk, rn, rm, rt⟩ := r
        simp only at f1 f2 f3 f4 HP HQ1 HI HQ
        obtain ⟨i1, hi1⟩ : ∃ i1, i1 = idw rn := ⟨_, rfl⟩
        rw [← hi1] at HP HI
        have HI1 : Hid (i1 = idw rn) := hi1
        clear hta hr hok hq hi1
        subst e2
        go_wp2_with fail
        refine (HQ1.out _).mono ?_
        rintro e w' ⟨rfl, rfl⟩
        by_cases hq0 : q = 0
        · subst hq0
          go_wp2_with fail
          refine (HI.out _).mono ?_
          rintro e w' ⟨rfl, rfl⟩
          go_wp2_with fail
          refine Calls.mono HP.out ?_
          rintro e w6 ⟨nn, rfl, h6⟩
          go_wp2_with fail
          go_roundw
          case rel =>
            refine ⟨t + 1, by omega, by go_num, _, i1 :: C, h6.out, ?_, ?_⟩
            · have := H8.out.2.1.commit HR.out.2.2 HQ.out.symm 1
              simp only [← HI1.out] at this
              exact this
            · intro i hi
              rw [HTK.out] at hi
              rcases com_snoc hi with ⟨_, h2⟩ | h2
              · rw [h2, HI1.out]; simp
              · exact List.mem_cons_of_mem _ (H8.out.2.2 i h2)
          case measure => simp [intOf]; omega
        · have hq0' : ¬ (q : Int) = 0 := by omega
          go_wp2_with fail
          go_roundw
          case rel =>
            refine ⟨t + 1, by omega, by go_num, _, C, H8.out.1, H8.out.2.1, ?_⟩
            intro i hi
            rw [HTK.out] at hi
            rcases com_snoc hi with ⟨h1, h2⟩ | h2
            · exact absurd (HQ.out.trans h1) hq0
            · exact H8.out.2.2 i h2
          case measure => simp [intOf]; omega
      · have htl' : ¬ (t : Int) < ln := by omega
        go_wp2_with fail
        go_meet
        have hh := H8.out.2.2
        rw [List.take_of_length_le (by have := HW.out.2; omega)] at hh
        exact ⟨s1, C, H8.out.1, H8.out.2.1, hh⟩
  case rest =>
  rename World => we
  obtain ⟨s1, C1, HG⟩ := hcut.out
  have H8 : Hid (OS w we pa s1 Na pb sb' Nb' ol lc rs) := HG.1
  have HC1 : Hid (Ct rs s1 C1 ∧ ∀ i ∈ com rs, i ∈ C1) := HG.2
  clear HG hcut H7 HCA
  -- b's Commits, any
  go_upto_block 12 with fail
  go_cut [17, 18] from 157 to 191 (fun _ _ wf => Hid (∃ sb C, OS w wf pa s1 Na pb sb Nb' ol lc rs ∧ Ct rs sb C))
  case first =>
    go_wp2_with fail
    go_loopw [17, 18] (fun s17 _ wq => ∃ t : Nat, t ≤ n2 ∧ t ≤ 200 ∧ s17 = .int .i64 t ∧ Hid (∃ sb C, OS w wq pa s1 Na pb sb Nb' ol lc rs ∧ Ct rs sb C)) (fun t _ _ => n2 - (intOf t).toNat)
    case atStart => exact ⟨0, by omega, by omega, rfl, _, _, H8.out, HCB.out⟩
    case round =>
      obtain ⟨t, ht, ht2, rfl, HT⟩ := hrel
      rename World => wq
      obtain ⟨s2, C, HT⟩ := HT.out
      have H9 : Hid (OS w wq pa s1 Na pb s2 Nb' ol lc rs ∧ Ct rs s2 C) := HT
      clear HT H8
      by_cases hc : t < n2 ∧ 0 < ln ∧ t < 200
      · obtain ⟨q1, q2, q3⟩ := hc
        have q1' : (t : Int) < n2 := by omega
        have q2' : (0 : Int) < ln := by omega
        have q3' : (t : Int) < 200 := by omega
        have hta : t < cs.length := by have := HA.out.2.2.1; omega
        obtain ⟨b1, off1, e1, d1⟩ := (HA.out.2.2.2.2.2.2.2.1.keepsN H9.out.1.keep).atN hta
        obtain ⟨z, hz⟩ : ∃ z : Int, z = cs.getD t 0 := ⟨_, rfl⟩
        have HZI : Hid (I64 z) := by show I64 z; rw [hz]; exact HA.out.2.2.2.2.2.2.2.2 _ (getD_mem_lt _ hta)
        rw [← hz] at d1
        obtain ⟨q, hq⟩ : ∃ q : Nat, q = rst z ((ln : Int) - 1).toNat := ⟨_, rfl⟩
        have hql : q < ln := by have := rst_le z ((ln : Int) - 1).toNat; omega
        have hql' : (q : Int) < ln := by omega
        have hqa : q < rs.length := by have := HW.out.2; omega
        have HRQ : Hid (∀ W, Calls Tryz.prog 11 #[.int .i64 z, .int .i64 ((ln : Int) - 1)] W fun e w' => e = .returned (.int .i64 ((q : Nat) : Int)) ∧ w' = W) := fun W => by rw [hq]; exact restI z _ W HZI.out (by omega) (by omega)
        obtain ⟨b2, off2, e2, f1, f2, f3, f4⟩ := H9.out.1.own.sl.atR hqa
        obtain ⟨r, hr⟩ : ∃ r, r = rs.getD q rv0 := ⟨_, rfl⟩
        rw [← hr] at f1 f2 f3 f4
        have HR : Hid (r ∈ rs) := by show r ∈ rs; rw [hr]; exact getD_mem_lt _ hqa
        have hok := HW.out.1.ok r HR.out
        have HP : Hid (∀ X, Keeps no wq X → Calls Tryz.prog 12 #[.pointer (some ⟨pb, 0, none⟩), .int .u64 ((idw r.wr : Nat) : Int), .int .i64 5] X fun e w' => ∃ n : Nat, e = .returned (.tuple #[.int .i64 ((n : Nat) : Int), .int .i64 0]) ∧ Hid (OS w w' pb (commitS s2 (idw r.wr) 5) Nb' pa s1 Na ol lc rs)) := fun X hX => (H9.out.1.go hX).swap.commit r.wr 5 (by decide) (by have := HNB.out; omega)
        obtain ⟨g, hg⟩ : ∃ g : Nat, g = rst r.kd 1 := ⟨_, rfl⟩
        have HQ1 : Hid (∀ W, Calls Tryz.prog 11 #[.int .i64 r.kd, .int .i64 1] W fun e w' => e = .returned (.int .i64 ((g : Nat) : Int)) ∧ w' = W) := fun W => by rw [hg]; exact restI r.kd 1 W hok.kd (by omega) (by omega)
        have HI : Hid (∀ W, Calls Tryz.prog 9 #[.int .i64 r.wr] W fun e w' => e = .returned (.int .u64 ((idw r.wr : Nat) : Int)) ∧ w' = W) := fun W => id_any r.wr W hok.wr
        have HQ : Hid (g = rst r.kd 1) := hg
        obtain ⟨rk, rn, rm, rt⟩ := r
        simp only at f1 f2 f3 f4 HP HQ1 HI HQ
        obtain ⟨i1, hi1⟩ : ∃ i1, i1 = idw rn := ⟨_, rfl⟩
        rw [← hi1] at HP HI
        have HI1 : Hid (i1 = idw rn) := hi1
        clear hta hr hok hg hi1 hz hq hqa
        subst e1 e2
        go_wp2_with fail
        refine (HRQ.out _).mono ?_
        rintro e w' ⟨rfl, hw'⟩
        subst w'
        go_wp2_with fail
        refine (HQ1.out _).mono ?_
        rintro e w' ⟨rfl, hw'⟩
        subst w'
        have HK : Hid (Keeps no wq (wq.alloc (.cells #[.int .i64 rk, .int .i64 rn, .int .i64 rm, .string rt] 31))) := (Keeps.refl no wq).alloc _
        obtain ⟨g1, g2, g3, g4⟩ := cells4r (blk_new wq (.cells #[.int .i64 rk, .int .i64 rn, .int .i64 rm, .string rt] 31))
        generalize wq.heap.size = R at *
        generalize wq.alloc (.cells #[.int .i64 rk, .int .i64 rn, .int .i64 rm, .string rt] 31) = w5 at *
        clear d1 f1 f2 f3 f4
        by_cases hq0 : g = 0
        · subst hq0
          go_wp2_with fail
          refine (HI.out _).mono ?_
          rintro e w' ⟨rfl, hw'⟩
          subst w'
          go_wp2_with fail
          refine Calls.mono (HP.out _ HK.out) ?_
          rintro e w6 ⟨nn, rfl, h6⟩
          go_wp2_with fail
          go_roundw
          case rel =>
            refine ⟨t + 1, by omega, by omega, by go_num, _, i1 :: C, h6.out.swap, ?_⟩
            have := H9.out.2.commit HR.out HQ.out.symm 5
            simp only [← HI1.out] at this
            exact this
          case measure => simp [intOf]; omega
        · have hq0' : ¬ (g : Int) = 0 := by omega
          go_wp2_with fail
          go_roundw
          case rel => exact ⟨t + 1, by omega, by omega, by go_num, _, C, H9.out.1.go HK.out, H9.out.2⟩
          case measure => simp [intOf]; omega
      · have hcc : ¬ (t : Int) < n2 ∨ ((t : Int) < n2 ∧ ¬ (0 : Int) < ln) ∨ ((t : Int) < n2 ∧ (0 : Int) < ln ∧ ¬ (t : Int) < 200) := by omega
        have HF : Hid (∃ sb C, OS w wq pa s1 Na pb sb Nb' ol lc rs ∧ Ct rs sb C) := ⟨s2, C, H9.out⟩
        rcases hcc with g1 | ⟨g1, g2⟩ | ⟨g1, g2, g3⟩
        · go_wp2_with fail
          go_meet
          exact HF.out
        · go_wp2_with fail
          go_meet
          exact HF.out
        · go_wp2_with fail
          go_meet
          exact HF.out
  case rest =>
  rename World => wf
  obtain ⟨s2, C2, HG⟩ := hcut.out
  have H9 : Hid (OS w wf pa s1 Na pb s2 Nb' ol lc rs) := HG.1
  have HC2 : Hid (Ct rs s2 C2) := HG.2
  clear HG hcut H8 HCB
  -- b's Commits, all
  go_upto_block 14 with fail
  go_cut [19] from 192 to 213 (fun _ wg => Hid (∃ sb C, OS w wg pa s1 Na pb sb Nb' ol lc rs ∧ Ct rs sb C ∧ ∀ i ∈ com rs, i ∈ C))
  case first =>
    go_wp2_with fail
    go_loopw [19] (fun s19 wq => ∃ z : Int, -1 ≤ z ∧ z < ln ∧ s19 = .int .i64 z ∧ Hid (∃ sb C, OS w wq pa s1 Na pb sb Nb' ol lc rs ∧ Ct rs sb C ∧ ∀ i ∈ com (rs.drop (z + 1).toNat), i ∈ C)) (fun t _ => (intOf t + 1).toNat)
    case atStart =>
      refine ⟨(ln : Int) - 1, by omega, by omega, rfl, _, _, H9.out, HC2.out, fun i hi => ?_⟩
      rw [show ((ln : Int) - 1 + 1).toNat = ln by omega, HW.out.2, List.drop_length] at hi
      obtain ⟨r, hr, _⟩ := mem_com.1 hi
      cases hr
    case round =>
      obtain ⟨z, hz0, hz1, rfl, HT⟩ := hrel
      rename World => wq
      obtain ⟨s3, C, HT⟩ := HT.out
      have H10 : Hid (OS w wq pa s1 Na pb s3 Nb' ol lc rs ∧ Ct rs s3 C ∧ ∀ i ∈ com (rs.drop (z + 1).toNat), i ∈ C) := HT
      clear HT H9
      by_cases hzz : 0 ≤ z
      · obtain ⟨t, ht⟩ : ∃ t : Nat, z = (t : Int) := ⟨z.toNat, by omega⟩
        subst ht
        have hta : t < rs.length := by have := HW.out.2; omega
        obtain ⟨b2, off2, e2, f1, f2, f3, f4⟩ := H10.out.1.own.sl.atR hta
        obtain ⟨r, hr⟩ : ∃ r, r = rs.getD t rv0 := ⟨_, rfl⟩
        rw [← hr] at f1 f2 f3 f4
        have HR : Hid (r ∈ rs) := by show r ∈ rs; rw [hr]; exact getD_mem_lt _ hta
        have hok := HW.out.1.ok r HR.out
        have HP : Hid (Calls Tryz.prog 12 #[.pointer (some ⟨pb, 0, none⟩), .int .u64 ((idw r.wr : Nat) : Int), .int .i64 7] wq fun e w' => ∃ n : Nat, e = .returned (.tuple #[.int .i64 ((n : Nat) : Int), .int .i64 0]) ∧ Hid (OS w w' pb (commitS s3 (idw r.wr) 7) Nb' pa s1 Na ol lc rs)) := H10.out.1.swap.commit r.wr 7 (by decide) (by have := HNB.out; omega)
        obtain ⟨q, hq⟩ : ∃ q : Nat, q = rst r.kd 1 := ⟨_, rfl⟩
        have HQ1 : Hid (∀ W, Calls Tryz.prog 11 #[.int .i64 r.kd, .int .i64 1] W fun e w' => e = .returned (.int .i64 ((q : Nat) : Int)) ∧ w' = W) := fun W => by rw [hq]; exact restI r.kd 1 W hok.kd (by omega) (by omega)
        have HI : Hid (∀ W, Calls Tryz.prog 9 #[.int .i64 r.wr] W fun e w' => e = .returned (.int .u64 ((idw r.wr : Nat) : Int)) ∧ w' = W) := fun W => id_any r.wr W hok.wr
        have HQ : Hid (q = rst r.kd 1) := hq
        have HTK : Hid (rs.drop ((t : Int) - 1 + 1).toNat = r :: rs.drop ((t : Int) + 1).toNat) := by
          show _ = _
          rw [show ((t : Int) - 1 + 1).toNat = t by omega, show ((t : Int) + 1).toNat = t + 1 by omega, hr]
          exact drop_getD rs t rv0 hta
        obtain ⟨rk, rn, rm, rt⟩ := r
        simp only at f1 f2 f3 f4 HP HQ1 HI HQ
        obtain ⟨i1, hi1⟩ : ∃ i1, i1 = idw rn := ⟨_, rfl⟩
        rw [← hi1] at HP HI
        have HI1 : Hid (i1 = idw rn) := hi1
        clear hta hr hok hq hi1
        subst e2
        go_wp2_with fail
        refine (HQ1.out _).mono ?_
        rintro e w' ⟨rfl, hw'⟩
        subst w'
        by_cases hq0 : q = 0
        · subst hq0
          go_wp2_with fail
          refine (HI.out _).mono ?_
          rintro e w' ⟨rfl, hw'⟩
          subst w'
          go_wp2_with fail
          refine Calls.mono HP.out ?_
          rintro e w6 ⟨nn, rfl, h6⟩
          go_wp2_with fail
          go_roundw
          case rel =>
            refine ⟨(t : Int) - 1, by omega, by omega, by go_num, _, i1 :: C, h6.out.swap, ?_, ?_⟩
            · have := H10.out.2.1.commit HR.out HQ.out.symm 7
              simp only [← HI1.out] at this
              exact this
            · intro i hi
              rw [HTK.out] at hi
              rcases com_cons hi with ⟨_, h2⟩ | h2
              · rw [h2, HI1.out]; simp
              · exact List.mem_cons_of_mem _ (H10.out.2.2 i h2)
          case measure => first | (simp [intOf]; done) | (simp [intOf]; omega)
        · have hq0' : ¬ (q : Int) = 0 := by omega
          go_wp2_with fail
          go_roundw
          case rel =>
            refine ⟨(t : Int) - 1, by omega, by omega, by go_num, _, C, H10.out.1, H10.out.2.1, ?_⟩
            intro i hi
            rw [HTK.out] at hi
            rcases com_cons hi with ⟨h1, h2⟩ | h2
            · exact absurd (HQ.out.trans h1) hq0
            · exact H10.out.2.2 i h2
          case measure => first | (simp [intOf]; done) | (simp [intOf]; omega)
      · have htl' : ¬ 0 ≤ z := by omega
        go_wp2_with fail
        go_meet
        have hh := H10.out.2.2
        rw [show (z + 1).toNat = 0 by omega, List.drop_zero] at hh
        exact ⟨s3, C, H10.out.1, H10.out.2.1, hh⟩
  case rest =>
  rename World => wg
  obtain ⟨s3, C3, HG⟩ := hcut.out
  have H10 : Hid (OS w wg pa s1 Na pb s3 Nb' ol lc rs) := HG.1
  have HLK : Hid (Lke s1 s3) := like_of HW.out.1.dd HC1.out.1.con HG.2.1.con HC1.out.1.full HG.2.1.full HC1.out.1.lst HG.2.1.lst (fun i => ⟨fun h => HG.2.2 i (HC1.out.1.sub i h), fun h => HC1.out.2 i (HG.2.1.sub i h)⟩)
  clear HG hcut H9 HC1 HC2
  go_wp2_with fail
  refine (H10.out.keptK (by have := HNB.out; omega)).mono ?_
  rintro e w11 ⟨o1, m1, k1, x1, rfl, h11⟩
  have H11 : Hid (Kd s1 x1 o1 m1 k1 w11 ∧ OS w w11 pa s1 Na pb s3 Nb' ol lc rs) := ⟨h11.out.1, h11.out.2.1⟩
  clear h11 H10
  go_wp2_with fail
  refine (H11.out.2.swap.keptK (by have := HNB.out; omega)).mono ?_
  rintro e w12 ⟨o2, m2, k2, x2, rfl, h12⟩
  have hml : m2 = m1 := by rw [h12.out.1.n, H11.out.1.n]; exact (kd_like HLK.out H11.out.1 h12.out.1).1.symm
  subst hml
  have H12 : Hid (Kd s1 x1 o1 m2 k1 w12 ∧ Kd s3 x2 o2 m2 k2 w12 ∧ OS w w12 pa s1 Na pb s3 Nb' ol lc rs) := ⟨H11.out.1.keepsN h12.out.2.2, h12.out.1, h12.out.2.1.swap⟩
  clear h12 H11
  go_wp2_with fail
  refine (H12.out.2.2.lastsK (by have := HNB.out; omega)).mono ?_
  rintro e w13 ⟨o3, m3, k3, l3, rfl, h13⟩
  have H13 : Hid (Kd s1 x1 o1 m2 k1 w13 ∧ Kd s3 x2 o2 m2 k2 w13 ∧ Ld s1 l3 o3 m3 k3 w13 ∧ OS w w13 pa s1 Na pb s3 Nb' ol lc rs) := ⟨H12.out.1.keepsN h13.out.2.2, H12.out.2.1.keepsN h13.out.2.2, h13.out.1, h13.out.2.1⟩
  clear h13 H12
  go_wp2_with fail
  refine (H13.out.2.2.2.swap.lastsK (by have := HNB.out; omega)).mono ?_
  rintro e w14 ⟨o4, m4, k4, l4, rfl, h14⟩
  have H14 : Hid (Kd s1 x1 o1 m2 k1 w14 ∧ Kd s3 x2 o2 m2 k2 w14 ∧ Ld s1 l3 o3 m3 k3 w14 ∧ Ld s3 l4 o4 m4 k4 w14 ∧ Keeps no w w14) := ⟨H13.out.1.keepsN h14.out.2.2, H13.out.2.1.keepsN h14.out.2.2, H13.out.2.2.1.keepsN h14.out.2.2, h14.out.1, h14.out.2.1.keep⟩
  clear h14 H13
  go_wp2_with fail
  refine (sameLd HLK.out.last H14.out.2.2.1 H14.out.2.2.2.1).mono ?_
  rintro e w15 ⟨rfl, hk15⟩
  have H15 : Hid (Kd s1 x1 o1 m2 k1 w15 ∧ Kd s3 x2 o2 m2 k2 w15 ∧ Keeps no w w15) := ⟨H14.out.1.keepsN hk15, H14.out.2.1.keepsN hk15, H14.out.2.2.2.2.trans hk15⟩
  clear hk15 H14
  have hA9 : (m2 : Int) ≤ 1000000 := by have := H15.out.1.n; have := H15.out.1.le; omega
  go_wp2_with fail
  go_loopw [22] (fun s22 wq => ∃ t : Nat, t ≤ m2 ∧ s22 = .int .i64 t ∧ Hid (Keeps no w15 wq)) (fun t _ => m2 - (intOf t).toNat)
  case atStart => exact ⟨0, by omega, rfl, Keeps.refl _ _⟩
  case round =>
    obtain ⟨k, hk, rfl, HK⟩ := hrel
    rename World => wr
    by_cases hlt : k < m2
    · have hlt' : (k : Int) < m2 := by omega
      have hka : k < x1.length := by have := H15.out.1.n; omega
      have hkb : k < x2.length := by have := H15.out.2.1.n; omega
      have HKA := H15.out.1.keepsN HK.out
      have HKB := H15.out.2.1.keepsN HK.out
      obtain ⟨b1, off1, e1, d0, d1, d2, d3, d4⟩ := HKA.own.sl.atK hka
      obtain ⟨b2, off2, e2, f0, f1, f2, f3, f4⟩ := HKB.own.sl.atK hkb
      have heq := (kd_like HLK.out HKA HKB).2 k hka
      have hx1 := HKA.okKs _ (getD_mem_lt kv0 hka)
      have hx2 := HKB.okKs _ (getD_mem_lt kv0 hkb)
      generalize x1.getD k kv0 = x at *
      generalize x2.getD k kv0 = y at *
      obtain ⟨⟨xk, xi⟩, xv, xo, xc, xks, xst⟩ := x
      obtain ⟨⟨yk, yi⟩, yv, yo, yc, yks, yst⟩ := y
      obtain ⟨q1, q2, q3, q4⟩ := heq
      simp only at q1 q2 q3 q4
      injection q1 with q1 q1'
      subst q1 q1' q2 q3
      simp only at d0 d1 d2 d3 d4 f0 f1 f2 f3 f4 hx1 hx2
      obtain ⟨nk, hnk⟩ : ∃ nk, nk = xks.length := ⟨_, rfl⟩
      rw [← hnk] at d3 f3
      subst e1 e2
      have cS := call_grown (W := wr) (f := 16) (args := #[.agg #[.string xk, .int .u64 ((xi : Nat) : Int), .string xv, .slice xo nk xc], .agg #[.string xk, .int .u64 ((xi : Nat) : Int), .string xv, .slice yo nk yc]]) (v := .bool true) (fun X hX => (sameVersion_any X ⟨xk, _, xv, xo, nk, xc⟩ ⟨xk, _, xv, yo, nk, yc⟩ xks xks hnk hnk (by have := hx1.2; omega) (by have := hx1.2; omega) (hx1.1.keepsN hX) (hx2.1.keepsN hX)).mono (fun e w' ⟨⟨B, hB, hB2⟩, hk⟩ => ⟨by rw [hB, hB2.out.2 ⟨rfl, rfl, rfl, rfl⟩], hk⟩))
      have z0 := cell_regrown d0
      have z1 := cell_regrown d1
      have z2 := cell_regrown d2
      have z3 := cell_regrown d3
      have z4 := cell_regrown d4
      have y0 := cell_regrown f0
      have y1 := cell_regrown f1
      have y2 := cell_regrown f2
      have y3 := cell_regrown f3
      have y4 := cell_regrown f4
      clear hka hkb hx1 hx2 hnk d0 d1 d2 d3 d4 f0 f1 f2 f3 f4 HKA HKB
      by_cases hst : xst < 0
      · have hst2 := q4.1 hst
        clear q4
        go_wp2_with fail
        refine wp_region_quiet_below (by kernel_rfl) (by kernel_rfl) ?_
        repeat (go_big_quiet_step (exact cS _ _))
        refine wpQuiet_nil ?_
        intro _ hw'
        obtain ⟨⟨dq, osq⟩, rfl⟩ := hw'
        have H2 : Hid (Keeps no w15 (Sort.grow (redrawn wr dq) osq)) := HK.out.trans (keeps_grownQ ..)
        generalize Sort.grow (redrawn wr dq) osq = w2 at H2 ⊢
        clear cS z0 z1 z2 z3 z4 y0 y1 y2 y3 y4
        go_wp2_with fail
        go_roundw
        case rel => exact ⟨k + 1, by omega, by go_num, H2⟩
        case measure => simp [intOf]; omega
      · have hst2 : ¬ yst < 0 := fun h => hst (q4.2 h)
        clear q4
        have hd1 : Hid (decide (xst < 0) = false) := by show _ = _; simp; omega
        have hd2 : Hid (decide (yst < 0) = false) := by show _ = _; simp; omega
        go_wp2_with fail
        refine wp_region_quiet_below (by kernel_rfl) (by kernel_rfl) ?_
        repeat (go_big_quiet_step (exact cS _ _))
        refine wpQuiet_nil ?_
        intro _ hw'
        obtain ⟨⟨dq, osq⟩, rfl⟩ := hw'
        have H2 : Hid (Keeps no w15 (Sort.grow (redrawn wr dq) osq)) := HK.out.trans (keeps_grownQ ..)
        generalize Sort.grow (redrawn wr dq) osq = w2 at H2 ⊢
        clear cS z0 z1 z2 z3 z4 y0 y1 y2 y3 y4
        simp only [hd1.out, hd2.out]
        go_wp2_with fail
        go_roundw
        case rel => exact ⟨k + 1, by omega, by go_num, H2⟩
        case measure => simp [intOf]; omega
    · have hlt' : ¬ (k : Int) < m2 := by omega
      go_wp2_with fail
      go_ret
      exact ⟨rfl, H15.out.2.2.trans HK.out⟩
end Go.Proofs.YtkoaiibjahlnmaaGreat

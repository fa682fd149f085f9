/- Lists of versions that the call itself made; version; brought. -/
import Derived.Test.YtodblodbeobgeaaL3
namespace Go.Proofs.Ytodblodbeobgeaa
open Go.RowKit Go.Sort Orl
set_option linter.unusedVariables false
set_option linter.unusedSimpArgs false

theorem own_apart {α β : Type} {E : El α} {F : El β} (hne : E.e ≠ F.e) {w : World} {o o' : Option Addr} {c c' : Nat} {xs : List α} {ys : List β} (h : Own E w o c xs) (h' : Own F w o' c' ys) : ∀ k, inO o k → ¬ inO o' k := by
  rintro k ⟨x, rfl, rfl⟩ ⟨y, rfl, hy⟩
  rcases h.shape with ⟨e, _⟩ | ⟨g, cur, e, hg, _⟩
  · cases e
  rcases h'.shape with ⟨e', _⟩ | ⟨g', cur', e', hg', _⟩
  · cases e'
  cases e; cases e'
  simp only at hy
  subst hy
  rw [hg] at hg'
  injection hg' with hg'
  injection hg' with _ h2 _
  exact hne h2
/-- a version whose keys are the call's own -/
structure VerN (w : World) (r : RV) (v : Ver) : Prop where
  key : r.key = v.key
  id : r.id = v.id
  val : r.val = v.val
  n : r.n = v.keys.length
  own : Own TE w r.o r.c v.keys
theorem VerN.of {w : World} {r : RV} {v : Ver} (h : VerN w r v) : VerOf w r v := ⟨h.key, h.id, h.val, h.n, h.own.sl⟩
theorem VerN.keepsN {w w' : World} {r : RV} {v : Ver} (h : VerN w r v) (k : Keeps no w w') : VerN w' r v := ⟨h.key, h.id, h.val, h.n, h.own.keepsN k⟩
theorem VerN.keeps {S : Nat → Prop} {w w' : World} {r : RV} {v : Ver} (h : VerN w r v) (k : Keeps S w w') (hs : ∀ i, inO r.o i → ¬ S i) : VerN w' r v := ⟨h.key, h.id, h.val, h.n, h.own.keeps k hs⟩
/-- a list of versions that was made since w -/
structure NewVs (w : World) (o : Option Addr) (c : Nat) (rs : List RV) (vs : List Ver) (w' : World) : Prop where
  own : Own VE w' o c rs
  len : rs.length = vs.length
  each : ∀ j, j < vs.length → VerN w' (rs.getD j r0) (vs.getD j v0)
  newO : New w o
  newK : ∀ j, j < vs.length → New w (rs.getD j r0).o
  kp : Keeps no w w'
theorem NewVs.vers {w w' : World} {o : Option Addr} {c : Nat} {rs : List RV} {vs : List Ver} (h : NewVs w o c rs vs w') : Vers w' o c rs vs := ⟨h.own.sl, h.len, fun j hj => (h.each j hj).of⟩
theorem NewVs.nil (w : World) : NewVs w none 0 [] [] w := ⟨own_nil w, rfl, fun j hj => by simp at hj, new_none w, fun j hj => by simp at hj, Keeps.refl _ _⟩
theorem NewVs.keepsN {w w' w2 : World} {o : Option Addr} {c : Nat} {rs : List RV} {vs : List Ver} (h : NewVs w o c rs vs w') (k : Keeps no w' w2) : NewVs w o c rs vs w2 :=
  ⟨h.own.keepsN k, h.len, fun j hj => (h.each j hj).keepsN k, h.newO, h.newK, h.kp.trans k⟩
theorem NewVs.older {w u w' : World} {o : Option Addr} {c : Nat} {rs : List RV} {vs : List Ver} (h : NewVs u o c rs vs w') (k : Keeps no w u) : NewVs w o c rs vs w' :=
  ⟨h.own, h.len, h.each, h.newO.of_le k.size, fun j hj => (h.newK j hj).of_le k.size, k.trans h.kp⟩
theorem getD_snoc {α : Type} (l : List α) (x d : α) (j : Nat) : (l ++ [x]).getD j d = if j < l.length then l.getD j d else if j = l.length then x else d := by
  simp only [List.getD_eq_getElem?_getD, List.getElem?_append]
  split
  · rfl
  · rename_i h
    by_cases e : j = l.length
    · subst e; simp
    · rw [if_neg e]
      rw [List.getElem?_eq_none (by simp; omega)]; rfl
theorem NewVs.push {w wr w' : World} {o o' : Option Addr} {c c' : Nat} {rs : List RV} {vs : List Ver} {r : RV} {v : Ver} (h : NewVs w o c rs vs wr) (hr : VerN wr r v) (hn : New w r.o) (ho : Own VE w' o' c' (rs ++ [r])) (ha : Ap wr o o' w') : NewVs w o' c' (rs ++ [r]) (vs ++ [v]) w' := by
  have hne : TE.e ≠ VE.e := by decide
  have hk : Keeps (inO o) wr w' := by rcases ha with ⟨_, k⟩ | ⟨_, k⟩; exact k; exact k.of_no
  have hnn := ha.new h.newO h.kp
  have hl := h.len
  have key : ∀ j, j < (vs ++ [v]).length → VerN w' ((rs ++ [r]).getD j r0) ((vs ++ [v]).getD j v0) ∧ New w ((rs ++ [r]).getD j r0).o := by
    intro j hj
    rw [List.length_append, List.length_singleton] at hj
    rw [getD_snoc, getD_snoc, hl]
    by_cases hlt : j < vs.length
    · rw [if_pos hlt, if_pos hlt]
      exact ⟨(h.each j hlt).keeps hk (own_apart hne (h.each j hlt).own h.own), h.newK j hlt⟩
    · have e : j = vs.length := by omega
      rw [if_neg hlt, if_neg hlt, if_pos e, if_pos e]
      exact ⟨hr.keeps hk (own_apart hne hr.own h.own), hn⟩
  exact ⟨ho, by simp [hl], fun j hj => (key j hj).1, hnn.1, fun j hj => (key j hj).2, hnn.2⟩
/-- a list of versions told: all new -/
def GiveVs (w : World) (vs : List Ver) (u : Value) (w' : World) : Prop := ∃ o n c rs, u = .slice o n c ∧ n = vs.length ∧ NewVs w o c rs vs w'
theorem own_oneV (w : World) (r : RV) : Sl VE (w.alloc (.cells #[.string r.key, .int .u64 (r.id : Nat), .string r.val, .slice r.o r.n r.c] 32)) (some ⟨w.heap.size, 0, none⟩) 1 [r] := by
  refine ⟨.inr ⟨_, 0, rfl, fun j u hj => ?_⟩, by simp, fun e => by cases e⟩
  rw [Nat.zero_add, cell_of_blk (blk_new w _)]
  simpa [El.cells, VE] using hj

/-! ### version -/
theorem version_any (w : World) (k : Tx) (i : Nat) (o : Option Addr) (n c : Nat) (hi : i < 18446744073709551616) :
    Calls Try.prog 25 #[.string k, .int .u64 (i : Nat), .slice o n c] w fun e w' => e = .returned (.agg #[.string k, .int .u64 (i : Nat), .string (if i = 0 then e0 else ⟨#[118]⟩), .slice o n c]) ∧ Keeps no w w' := by
  by_cases h0 : i = 0
  · subst h0
    go_enter Try.func25, Try.ntmps25
    go_wp2
    (try simp only [Exit.inBlock, Exit.then])
    refine bodyPost_ret (results_row1 rfl _ _ w.heap.size _ rfl (run_loadVar_row _ _ _ _ _ _ _ (blk_alloc (blk_new w _) _) Try.underlying32 rfl (ver_size _ _ _ _))) rfl ?_
    exact ⟨rfl, ((Keeps.refl _ _).alloc _).alloc _⟩
  · have h0' : ((i : Int) == 0) = false := by simp; omega
    have h1 : ¬ (i : Int) = 0 := by omega
    rw [if_neg h0]
    go_enter Try.func25, Try.ntmps25
    go_wp2
    (try simp only [Exit.inBlock, Exit.then])
    refine bodyPost_ret (results_row1 rfl _ _ w.heap.size _ rfl (run_loadVar_row _ _ _ _ _ _ _ (blk_alloc (blk_new w _) _) Try.underlying32 rfl (ver_size _ _ _ _))) rfl ?_
    exact ⟨rfl, ((Keeps.refl _ _).alloc _).alloc _⟩

/-! ### what a read brought -/
/-- bottom, and the versions of the first j writes that have the key -/
def someV (ms : List Int) (k : Tx) (j : Nat) : List Ver := botV k :: ((List.range j).filter fun n => inn (KM ms n) k).map fun n => madeV ms n k
theorem someV_succ (ms : List Int) (k : Tx) (j : Nat) : someV ms k (j + 1) = if inn (KM ms j) k = true then someV ms k j ++ [madeV ms j k] else someV ms k j := by
  unfold someV
  rw [List.range_succ, List.filter_append, List.map_append]
  split
  · rename_i h; simp [h]
  · rename_i h; simp [h]
theorem someV_len (ms : List Int) (k : Tx) (j : Nat) : 1 ≤ (someV ms k j).length ∧ (someV ms k j).length ≤ j + 1 := by
  unfold someV
  rw [List.length_cons, List.length_map]
  have := List.length_filter_le (fun n => inn (KM ms n) k) (List.range j)
  rw [List.length_range] at this
  omega
theorem someV_of (ms : List Int) (k : Tx) (j : Nat) : ∀ v ∈ someV ms k j, v.key = k ∧ OfW (KM ms) VM j v := by
  intro v hv
  unfold someV at hv
  rcases List.mem_cons.1 hv with rfl | hv
  · exact ⟨rfl, .inl rfl⟩
  · obtain ⟨n, hn, rfl⟩ := List.mem_map.1 hv
    obtain ⟨h1, h2⟩ := List.mem_filter.1 hn
    exact ⟨rfl, .inr ⟨n, List.mem_range.1 h1, (inn_iff _ _).1 h2, rfl⟩⟩
/-- the i-th key of a read -/
def keyR (read turn : Int) (i : Nat) : Tx := (setM read).getD ((i + rst turn ((setM read).length - 1)) % (setM read).length) e0
def pickR (picks : List Int) (i : Nat) : Int := picks.getD i 0
def broV (ms : List Int) (read turn : Int) (picks : List Int) (i : Nat) : Ver := (someV ms (keyR read turn i) ms.length).getD (rst (pickR picks i) ((someV ms (keyR read turn i) ms.length).length - 1)) v0
def broL (ms : List Int) (read turn : Int) (picks : List Int) (n : Nat) : List Ver := (List.range n).map (broV ms read turn picks)
def broughtV (ms : List Int) (read turn : Int) (picks : List Int) : List Ver := broL ms read turn picks (setM read).length
theorem broL_succ (ms : List Int) (read turn : Int) (picks : List Int) (n : Nat) : broL ms read turn picks (n + 1) = broL ms read turn picks n ++ [broV ms read turn picks n] := by
  unfold broL; rw [List.range_succ, List.map_append]; rfl
theorem broL_len (ms : List Int) (read turn : Int) (picks : List Int) (n : Nat) : (broL ms read turn picks n).length = n := by unfold broL; simp
theorem broV_mem (ms : List Int) (read turn : Int) (picks : List Int) (i : Nat) : broV ms read turn picks i ∈ someV ms (keyR read turn i) ms.length := by
  unfold broV
  refine getD_mem_lt v0 ?_
  have := (someV_len ms (keyR read turn i) ms.length).1
  have := rst_le (pickR picks i) ((someV ms (keyR read turn i) ms.length).length - 1)
  omega
theorem mkL_size (z : Int) : (mkL [z]).size = 1 := rfl
theorem setM_size (m : Int) : ∀ s ∈ setM m, s.size = 1 := by
  intro s hs
  unfold setM at hs
  split at hs
  · rcases List.mem_cons.1 hs with rfl | h
    · rfl
    · cases h
  · unfold setK at hs
    obtain ⟨i, _, rfl⟩ := List.mem_map.1 hs
    rfl

set_option maxRecDepth 10000 in
set_option maxHeartbeats 1000000 in
theorem brought_any (w : World) (om : Option Addr) (nm cm : Nat) (ms : List Int) (read turn : Int) (op : Option Addr) (np cp : Nat) (ps : List Int) (hnm : nm = ms.length) (hnp : np = ps.length) (hlen : ms.length ≤ 60) (hpl : ps.length ≤ 17592186044000) (hI : ∀ z ∈ ms, I64 z) (hP : ∀ z ∈ ps, I64 z) (hr : I64 read) (ht : I64 turn) (hs : Sl ZE w om cm ms) (hp : Sl ZE w op cp ps) :
    Calls Try.prog 9 #[.slice om nm cm, .int .i64 read, .int .i64 turn, .slice op np cp] w fun e w' => ∃ u, e = .returned u ∧ GiveVs w (broughtV ms read turn ps) u w' := by
  have HNM : Hid (nm = ms.length ∧ np = ps.length) := ⟨hnm, hnp⟩
  have hm60 : (nm : Int) ≤ 60 := by omega
  have hp60 : (np : Int) ≤ 17592186044000 := by omega
  have HI : Hid ((∀ z ∈ ms, I64 z) ∧ (∀ z ∈ ps, I64 z) ∧ I64 turn ∧ ms.length ≤ 60) := ⟨hI, hP, ht, hlen⟩
  have HS : Hid (Sl ZE w om cm ms ∧ Sl ZE w op cp ps) := ⟨hs, hp⟩
  have hks := fun W => keys_any read W hr
  clear hnm hnp hlen hpl hI hP ht hs hp
  go_enter Try.func9, Try.ntmps9
  go_wp2_with fail
  refine (hks _).mono ?_
  rintro e w1 ⟨_, rfl, ok, nk, ck, rfl, HNK, hok, hnk, hkk⟩
  have HK : Hid (Own TE w1 ok ck (setM read) ∧ New w ok ∧ Keeps no w w1) := ⟨hok, hnk, hkk⟩
  have hl8 := setM_len read
  have hn1 : (1 : Int) ≤ nk := by have := HNK.out; omega
  have hn8 : (nk : Int) ≤ 8 := by have := HNK.out; omega
  clear hok hnk hkk hks hl8
  go_wp2_with fail
  go_loopw [10, 11] (fun s10 s11 wr => ∃ (i : Nat) (u : Value), i ≤ nk ∧ s11 = .int .i64 i ∧ s10 = u ∧ Hid (∃ o n c rs, u = .slice o n c ∧ n = i ∧ NewVs w1 o c rs (broL ms read turn ps i) wr)) (fun _ s11 _ => nk - (intOf s11).toNat)
  case atStart => exact ⟨0, _, by omega, rfl, rfl, none, 0, 0, [], rfl, rfl, NewVs.nil _⟩
  case round =>
    rename World => wr
    obtain ⟨i, u, hi, rfl, rfl, HL⟩ := hrel
    obtain ⟨ol, nl, cl, rsl, rfl, hnl, hvl⟩ := HL.out
    have HV : Hid (nl = i ∧ NewVs w1 ol cl rsl (broL ms read turn ps i) wr) := ⟨hnl, hvl⟩
    clear HL hnl hvl
    by_cases hlt : i < nk
    · have hlt' : (i : Int) < nk := by omega
      have hlk := HNK.out
      obtain ⟨R, hR⟩ : ∃ R, R = rst turn ((setM read).length - 1) := ⟨_, rfl⟩
      have hRle : R ≤ nk - 1 := by rw [hR, hlk]; exact rst_le _ _
      have HRS : Hid (∀ W, Calls Try.prog 12 #[.int .i64 turn, .int .i64 ((nk : Int) - 1)] W fun e w' => e = .returned (.int .i64 (R : Nat)) ∧ w' = W) := by
        intro W
        have h := rest_any turn ((setM read).length - 1) W HI.out.2.2.1 (by have := setM_len read; omega)
        rw [← hR] at h
        rw [show ((nk : Int) - 1) = (((setM read).length - 1 : Nat) : Int) by have := setM_len read; omega]
        exact h
      obtain ⟨q, hq⟩ : ∃ q, q = (i + R) % nk := ⟨_, rfl⟩
      have hqlt : q < nk := by rw [hq]; exact Nat.mod_lt _ (by omega)
      have hrem : Int.tmod ((i : Int) + (R : Int)) (nk : Int) = (q : Int) := by
        rw [Int.tmod_eq_emod_of_nonneg (by omega), hq]
        push_cast
        rfl
      have hnk0 : ¬ (nk : Int) = 0 := by omega
      have hq' : (q : Int) < nk := by omega
      have hR' : (R : Int) ≤ 8 := by omega
      obtain ⟨bk, offk, hok, dk⟩ := (HK.out.1.keepsN HV.out.2.kp).sl.at (j := q) (by rw [← hlk]; exact hqlt)
      have HKY : Hid ((setM read).getD q e0 = keyR read turn i) := by
        show _ = _
        unfold keyR
        rw [hq, hR, hlk]
      have hsz : ((setM read).getD q e0).size = 1 := setM_size read _ (getD_mem_lt e0 (by rw [← hlk]; exact hqlt))
      generalize (setM read).getD q e0 = k at dk HKY hsz
      subst hok
      clear hR hRle hq hqlt hlk
      go_wp2_with fail
      refine (HRS.out _).mono ?_
      rintro e wq ⟨rfl, hwq⟩
      subst wq
      clear HRS
      go_wp2_with (at_builtin; refine wpList_app okV rfl _ _ rfl _ _ _ [] rfl rfl (own_nil _) _ _ _ [⟨k, 0, e0, none, 0, 0⟩] rfl rfl (fun h => by cases h) (own_oneV wr ⟨k, 0, e0, none, 0, 0⟩).row (by simp [VE]) (by simp) ?_; intro os cs ws hos haps)
      have HSV : Hid (NewVs wr os cs [⟨k, 0, e0, none, 0, 0⟩] (someV ms k 0) ws) := by
        have h1 : NewVs wr none 0 [] [] (wr.alloc (.cells #[.string k, .int .u64 ((0 : Nat) : Int), .string e0, .slice none 0 0] 32)) := (NewVs.nil wr).keepsN ((Keeps.refl _ _).alloc _)
        exact h1.push (r := ⟨k, 0, e0, none, 0, 0⟩) (v := botV k) ⟨rfl, rfl, rfl, rfl, own_nil _⟩ (new_none _) hos haps
      clear hos haps
      go_wp2_with fail
      go_loopw [13, 14] (fun s13 s14 wi => ∃ (j : Nat) (u : Value), j ≤ nm ∧ s14 = .int .i64 j ∧ s13 = u ∧ Hid (∃ o n c rs, u = .slice o n c ∧ n = (someV ms k j).length ∧ NewVs wr o c rs (someV ms k j) wi)) (fun _ s14 _ => nm - (intOf s14).toNat)
      case atStart => exact ⟨0, _, by omega, rfl, rfl, os, _, cs, _, rfl, rfl, HSV.out⟩
      case round =>
        rename World => wi
        obtain ⟨j, u, hj, rfl, rfl, HL⟩ := hrel
        obtain ⟨o, n, c, rs, rfl, hn, hv⟩ := HL.out
        have HW : Hid (n = (someV ms k j).length ∧ NewVs wr o c rs (someV ms k j) wi) := ⟨hn, hv⟩
        have HSO : Hid (Sl ZE wi om cm ms ∧ Sl ZE wi op cp ps) := by
          have kp := HK.out.2.2.trans (HV.out.2.kp.trans hv.kp)
          exact ⟨HS.out.1.keepsN kp, HS.out.2.keepsN kp⟩
        clear HL hn hv
        by_cases hjl : j < nm
        · have hjl' : (j : Int) < nm := by omega
          have hjm : j < ms.length := by have := HNM.out.1; omega
          obtain ⟨bm, offm, hom, dm⟩ := HSO.out.1.atZ hjm
          have HZ : Hid (ms.getD j 0 ∈ ms ∧ KM ms j = setM (ms.getD j 0)) := ⟨getD_mem_lt 0 hjm, rfl⟩
          generalize ms.getD j 0 = z at dm HZ
          subst hom
          have hks := fun W => keys_any z W (HI.out.1 z HZ.out.1)
          go_wp2_with fail
          refine (hks _).mono ?_
          rintro e w4 ⟨_, rfl, o4, n4, c4, rfl, hn4, ho4, hnw4, hk4⟩
          have HK4 : Hid (Keeps no wi w4) := hk4
          have hhs := has_any w4 o4 n4 c4 (setM z) k hn4.out (by have := setM_len z; omega) ho4.sl
          clear hks hn4 ho4 hnw4 hk4
          go_wp2_with fail
          refine hhs.mono ?_
          rintro e wq ⟨rfl, hwq⟩
          subst wq
          clear hhs
          have HSC := someV_succ ms k j
          rw [HZ.out.2] at HSC
          have HSC' : Hid (someV ms k (j + 1) = if inn (setM z) k = true then someV ms k j ++ [madeV ms j k] else someV ms k j) := HSC
          clear HSC
          generalize inn (setM z) k = b at HSC' ⊢
          cases b with
          | true =>
            have HSC2 : Hid (someV ms k (j + 1) = someV ms k j ++ [madeV ms j k]) := by show _ = _; rw [HSC'.out, if_pos rfl]
            clear HSC'
            have hmd := made_any w4 (some ⟨bm, offm, none⟩) nm cm ms j k HNM.out.1 hjm HI.out.2.2.2 (by omega) HI.out.1 (HSO.out.1.keepsN HK4.out)
            have HMD : Hid (Calls Try.prog 19 #[.slice (some ⟨bm, offm, none⟩) nm cm, .int .i64 ((j : Nat) : Int), .string k] w4 fun e w' => ∃ u, e = .returned u ∧ GiveV w4 (madeV ms j k) u w') := hmd
            clear hmd
            go_wp2_with fail
            refine Calls.mono HMD.out ?_
            rintro e w5 ⟨_, rfl, o5, n5, c5, rfl, hn5, ho5, hnw5, hk5⟩
            have HW5 : Hid (NewVs wr o c rs (someV ms k j) w5) := HW.out.2.keepsN (HK4.out.trans hk5)
            obtain ⟨r5, hr5⟩ : ∃ r5 : RV, r5 = ⟨k, 65536 * (j + 1), VM j k, o5, n5, c5⟩ := ⟨_, rfl⟩
            have HV5 : Hid (VerN w5 r5 (madeV ms j k) ∧ New wr r5.o) := by
              rw [hr5]
              exact ⟨⟨rfl, rfl, rfl, hn5.out, ho5⟩, hnw5.of_le (Nat.le_trans HW.out.2.kp.size HK4.out.size)⟩
            have hlb := someV_len ms k j
            have HRL : Hid (n = rs.length ∧ rs.length ≤ 61) := by
              have h1 := HW.out.2.len
              have h2 := HW.out.1
              exact ⟨by omega, by omega⟩
            clear HMD hn5 ho5 hnw5 hk5 hlb
            go_wp2_with (at_builtin; refine wpList_app okV rfl _ _ rfl _ _ _ rs rfl HRL.out.1 (HW5.out.own.keepsN ((Keeps.refl _ _).alloc _)) _ _ _ [⟨k, 65536 * (j + 1), VM j k, o5, n5, c5⟩] rfl rfl (fun h => by cases h) (own_oneV w5 ⟨k, 65536 * (j + 1), VM j k, o5, n5, c5⟩).row (by have := HRL.out.2; simp [VE]; omega) (by have := HRL.out.2; simp; omega) ?_; intro os6 cs6 ws6 hos6 haps6)
            go_roundw
            case rel =>
              refine ⟨j + 1, _, by omega, by go_num, rfl, os6, _, cs6, rs ++ [⟨k, 65536 * (j + 1), VM j k, o5, n5, c5⟩], rfl, ?_, ?_⟩
              · rw [HSC2.out, List.length_append, ← HW.out.1]; rfl
              · rw [HSC2.out]
                have h1 := HW5.out.keepsN ((Keeps.refl no w5).alloc (.cells #[.string k, .int .u64 ((65536 * (j + 1) : Nat) : Int), .string (VM j k), .slice o5 n5 c5] 32))
                have h2 := HV5.out
                rw [hr5] at h2
                exact h1.push (h2.1.keepsN ((Keeps.refl _ _).alloc _)) h2.2 hos6 haps6
            case measure => simp [intOf]; omega
          | false =>
            have HSC2 : Hid (someV ms k (j + 1) = someV ms k j) := by show _ = _; rw [HSC'.out, if_neg (by simp)]
            clear HSC'
            go_wp2_with fail
            go_roundw
            case rel =>
              refine ⟨j + 1, _, by omega, by go_num, rfl, o, n, c, rs, rfl, ?_, ?_⟩
              · rw [HSC2.out]; exact HW.out.1
              · rw [HSC2.out]; exact HW.out.2.keepsN HK4.out
            case measure => simp [intOf]; omega
        · have hjn : j = ms.length := by have := HNM.out.1; omega
          have hjl' : ¬ (j : Int) < nm := by omega
          subst hjn
          have hlb := someV_len ms k ms.length
          have hn1' : (1 : Int) ≤ n := by have := HW.out.1; omega
          have hn61 : (n : Int) ≤ 61 := by have := HW.out.1; have := HI.out.2.2.2; omega
          obtain ⟨R2, hR2⟩ : ∃ R, R = rst (pickR ps i) ((someV ms k ms.length).length - 1) := ⟨_, rfl⟩
          have HR2 : Hid (R2 = rst (pickR ps i) ((someV ms k ms.length).length - 1)) := hR2
          have hR2l : R2 < (someV ms k ms.length).length := by have := rst_le (pickR ps i) ((someV ms k ms.length).length - 1); omega
          have hR2' : (R2 : Int) < n := by have := HW.out.1; omega
          obtain ⟨bs, offs, hbs, x0, x1, x2, x3⟩ := HW.out.2.own.sl.atV (j := R2) (by rw [HW.out.2.len]; exact hR2l)
          have HRV : Hid (VerN wi (rs.getD R2 r0) ((someV ms k ms.length).getD R2 v0) ∧ New wr (rs.getD R2 r0).o) := ⟨HW.out.2.each R2 hR2l, HW.out.2.newK R2 hR2l⟩
          have HBV : Hid ((someV ms k ms.length).getD R2 v0 = broV ms read turn ps i) := by
            show _ = _
            unfold broV
            rw [← HKY.out, HR2.out]
          generalize rs.getD R2 r0 = r at x0 x1 x2 x3 HRV
          obtain ⟨rk, ri, rv, ro, rn, rc⟩ := r
          simp only at x0 x1 x2 x3
          subst hbs
          have HLL : Hid (nl = rsl.length ∧ rsl.length ≤ 8) := by
            have h1 := HV.out.2.len
            rw [broL_len] at h1
            have h2 := HV.out.1
            exact ⟨by omega, by omega⟩
          clear hlb hR2 hR2l
          by_cases hip : i < np
          · have hip' : (i : Int) < np := by omega
            have hpm : i < ps.length := by have := HNM.out.2; omega
            obtain ⟨bp, offp, hop, dp⟩ := HSO.out.2.atZ hpm
            have HPI : Hid (I64 (ps.getD i 0)) := HI.out.2.1 _ (getD_mem_lt 0 hpm)
            have HR2 : Hid (R2 = rst (ps.getD i 0) ((someV ms k ms.length).length - 1)) := HR2
            generalize ps.getD i 0 = pz at dp HPI HR2
            subst hop
            clear hpm
            have HRS : Hid (∀ W, Calls Try.prog 12 #[.int .i64 pz, .int .i64 ((n : Int) - 1)] W fun e w' => e = .returned (.int .i64 (R2 : Nat)) ∧ w' = W) := by
              intro W
              have h := rest_any pz ((someV ms k ms.length).length - 1) W HPI.out (by have := someV_len ms k ms.length; have := HI.out.2.2.2; omega)
              rw [← HR2.out] at h
              rw [show ((n : Int) - 1) = (((someV ms k ms.length).length - 1 : Nat) : Int) by have := someV_len ms k ms.length; have := HW.out.1; omega]
              exact h
            go_wp2_with fail
            refine (HRS.out _).mono ?_
            rintro e wq ⟨rfl, hwq⟩
            subst wq
            clear HRS
            go_wp2_with (at_builtin; refine wpList_app okV rfl _ _ rfl _ _ _ rsl rfl HLL.out.1 (HV.out.2.own.keepsN (HW.out.2.kp.alloc _)) _ _ _ [⟨rk, ri, rv, ro, rn, rc⟩] rfl rfl (fun h => by cases h) (own_oneV wi ⟨rk, ri, rv, ro, rn, rc⟩).row (by have := HLL.out.2; simp [VE]; omega) (by have := HLL.out.2; simp; omega) ?_; intro os6 cs6 ws6 hos6 haps6)
            go_roundw
            case rel =>
              refine ⟨i + 1, _, by omega, by go_num, rfl, os6, _, cs6, rsl ++ [⟨rk, ri, rv, ro, rn, rc⟩], rfl, ?_, ?_⟩
              · have := HV.out.1; omega
              · rw [broL_succ, ← HBV.out]
                have h1 := HV.out.2.keepsN (HW.out.2.kp.alloc (.cells #[.string rk, .int .u64 (ri : Nat), .string rv, .slice ro rn rc] 32))
                exact h1.push (HRV.out.1.keepsN ((Keeps.refl _ _).alloc _)) (HRV.out.2.of_le HV.out.2.kp.size) hos6 haps6
            case measure => simp [intOf]; omega
          · have hip' : ¬ (i : Int) < np := by omega
            have hp0 : pickR ps i = 0 := by
              unfold pickR
              rw [List.getD_eq_getElem?_getD, List.getElem?_eq_none (by have := HNM.out.2; omega)]; rfl
            have HR2 : Hid (R2 = rst 0 ((someV ms k ms.length).length - 1)) := (show _ = _ by rw [HR2.out, hp0])
            have HPI : Hid (I64 0) := ⟨by omega, by omega⟩
            clear hp0
            have HRS : Hid (∀ W, Calls Try.prog 12 #[.int .i64 0, .int .i64 ((n : Int) - 1)] W fun e w' => e = .returned (.int .i64 (R2 : Nat)) ∧ w' = W) := by
              intro W
              have h := rest_any 0 ((someV ms k ms.length).length - 1) W HPI.out (by have := someV_len ms k ms.length; have := HI.out.2.2.2; omega)
              rw [← HR2.out] at h
              rw [show ((n : Int) - 1) = (((someV ms k ms.length).length - 1 : Nat) : Int) by have := someV_len ms k ms.length; have := HW.out.1; omega]
              exact h
            go_wp2_with fail
            refine (HRS.out _).mono ?_
            rintro e wq ⟨rfl, hwq⟩
            subst wq
            clear HRS
            go_wp2_with (at_builtin; refine wpList_app okV rfl _ _ rfl _ _ _ rsl rfl HLL.out.1 (HV.out.2.own.keepsN (HW.out.2.kp.alloc _)) _ _ _ [⟨rk, ri, rv, ro, rn, rc⟩] rfl rfl (fun h => by cases h) (own_oneV wi ⟨rk, ri, rv, ro, rn, rc⟩).row (by have := HLL.out.2; simp [VE]; omega) (by have := HLL.out.2; simp; omega) ?_; intro os6 cs6 ws6 hos6 haps6)
            go_roundw
            case rel =>
              refine ⟨i + 1, _, by omega, by go_num, rfl, os6, _, cs6, rsl ++ [⟨rk, ri, rv, ro, rn, rc⟩], rfl, ?_, ?_⟩
              · have := HV.out.1; omega
              · rw [broL_succ, ← HBV.out]
                have h1 := HV.out.2.keepsN (HW.out.2.kp.alloc (.cells #[.string rk, .int .u64 (ri : Nat), .string rv, .slice ro rn rc] 32))
                exact h1.push (HRV.out.1.keepsN ((Keeps.refl _ _).alloc _)) (HRV.out.2.of_le HV.out.2.kp.size) hos6 haps6
            case measure => simp [intOf]; omega
    · have hik : i = (setM read).length := by have := HNK.out; omega
      have hlt' : ¬ (i : Int) < nk := by omega
      go_wp2_with fail
      go_ret
      refine ⟨_, rfl, ol, nl, cl, rsl, rfl, ?_, ?_⟩
      · unfold broughtV; rw [broL_len]; have := HV.out.1; omega
      · have h := HV.out.2
        rw [hik] at h
        exact h.older HK.out.2.2
end Go.Proofs.Ytodblodbeobgeaa

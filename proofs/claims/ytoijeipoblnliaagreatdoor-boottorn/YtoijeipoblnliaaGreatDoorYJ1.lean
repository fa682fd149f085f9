import Derived.Test.YtoijeipoblnliaaGreatDoorYJ0
/- BootTorn: the disk. -/
namespace Go.Proofs.YtoijeipoblnliaaGreatDoor
open Go.RowKit Go.Maps Go.Sort Orl Pk
set_option linter.unusedVariables false
set_option linter.unusedSimpArgs false

structure Sn (b : List UInt8) (s : Dk.St) : Prop where
  on : On s
  ref : s.ref = 0
  inc : Dk.Inc s.fs
  len : s.fs.length ≤ 12
  sz : Sz s
  sn : Dk.find snapB s.fs = some (fl b)
  ok : snOk 5 (nts b) = true
def dlS (s : Dk.St) : Dk.St := { s with fs := Dk.del snapB s.fs }
def tornS (s : Dk.St) (b : List UInt8) : Dk.St := lay1 snapB ⟨b, 0⟩ (dlS s)
theorem find_unit (n : Dk.Nm) : ∀ (l : List (Dk.Nm × Dk.Fl)) {f : Dk.Fl}, Dk.find n l = some f → Dk.find n (Dk.mapv (fun _ => ()) l) = some ()
  | [], _, h => by cases h
  | p :: r, f, h => by
    unfold Dk.find at h
    show Dk.find n ((p.1, ()) :: Dk.mapv (fun _ => ()) r) = _
    unfold Dk.find
    by_cases e : (p.1 == n) = true
    · simp [e]
    · simp only [e] at h ⊢
      exact find_unit n r h
section
variable {b b' : List UInt8} {s : Dk.St}
theorem Sn.delE (h : Sn b s) : Dk.counted s (Dk.deleteOn snapB) = (dlS s, 0) := by
  unfold Dk.counted
  rw [h.on.tick, h.on.off]
  unfold Dk.deleteOn Dk.onF
  rw [h.sn]
  rfl
theorem Sn.on' (h : Sn b s) : On (dlS s) := ⟨h.on.off, h.on.calls⟩
theorem Sn.none (h : Sn b s) : Dk.find snapB (dlS s).fs = none := Dk.find_del_same _
theorem Sn.appE (h : Sn b s) (b' : List UInt8) : Dk.counted (dlS s) (Dk.appendOn snapB b') = (tornS s b', 0) := by
  rw [app_on (b := b') h.on' h.ref snap_good (fun _ => by have := Dk.length_del_le (n := snapB) s.fs; have := h.len; show (Dk.del snapB s.fs).length < 16; omega)]
  unfold bsOf syOf
  rw [h.none]
  rfl
theorem Sn.szT (h : Sn b s) (hl : b'.length ≤ 8000000000) : Sz (tornS s b') := fun q hq => by
  rcases Dk.mem_put.1 hq with e | e
  · subst e; rw [szB_snap]; exact hl
  · exact h.sz q (Dk.mem_del.1 e.1).1
theorem Sn.onT (h : Sn b s) : On (tornS s b') := ⟨h.on.off, h.on.calls⟩
theorem Sn.bad (h : Sn b s) (hb : snOk 5 (nts b') = false) : Boot 5 (tornS s b') (tornS s b') 140 0 St.new 0 := by
  have ht : Dk.tick (tornS s b') = tornS s b' := (h.onT (b' := b')).tick
  have hf : Dk.find snapB (tornS s b').fs = some ⟨b', 0⟩ := find_lay1 _ _ _
  have hs : hasSnap (tornS s b') = true := by unfold hasSnap; rw [hf]; rfl
  have hr : bsS (tornS s b') = nts b' := by
    unfold bsS
    rw [ht]
    unfold Dk.readB
    rw [(h.onT (b' := b')).off, hf]
    rfl
  have hE : baseE 5 (tornS s b') = 140 := by
    unfold baseE
    rw [if_pos hs, ht, if_neg (by rw [(h.onT (b' := b')).off]; decide), hr, if_neg (by rw [hb]; decide)]
  have hD : baseD (tornS s b') = tornS s b' := by unfold baseD; rw [if_pos hs, ht]
  have := Boot.base (now := 5) (s := tornS s b') (by rw [ht]; exact (h.onT (b' := b')).off) (by rw [ht, hE]; decide)
  rw [ht, hE, hD] at this
  exact this
theorem Sn.names (h : Sn b s) : Dk.names (tornS s b').fs = Dk.names s.fs := by
  show Dk.names (Dk.put snapB _ (Dk.del snapB s.fs)) = _
  rw [← Dk.names_mapv (fun _ => ()) (Dk.put snapB _ (Dk.del snapB s.fs)), Dk.mapv_put, Dk.mapv_del]
  have e : Dk.put snapB () (Dk.del snapB (Dk.mapv (fun _ => ()) s.fs)) = Dk.put snapB () (Dk.mapv (fun _ => ()) s.fs) := by
    unfold Dk.put Dk.del
    rw [List.filter_filter]
    simp
  rw [e, Dk.put_same (Dk.inc_mapv _ h.inc) (find_unit snapB s.fs h.sn), Dk.names_mapv]
end
theorem laid_sn {g : Nat} {ll : List RW} {U W : World} {p q oth : Nat} {tail : Int} (h : ∃ F bs N, Dn U W p F (otS (tnS bs g (recL ll) (tornK tail)) oth) ∧ BsOk 5 g bs ∧ (∀ b, bs = some b → b.length ≤ 8000000000) ∧ Sto U.heap.size W q (redoS 5 (bst 5 bs) (recL ll)) N F ∧ N ≤ 500000000) (hl : ll.length ≤ 30) (h8 : oth ≤ 8) (hg : 2 ≤ g) : ∃ F b s, Dn U W p F s ∧ Sn b s ∧ b.length ≤ 8000000000 := by
  obtain ⟨F, bs, N, hd, hb, hz, hs, hn⟩ := h
  cases bs with
  | none => have : g = 0 := hb; omega
  | some b =>
    have hr := recL_row ll
    have hlz := otS_lz (tnS_lz hz g (recL ll) (by rw [rb_len]; omega) (tornK tail)) oth h8
    refine ⟨F, b, _, hd, ⟨hlz.on, hlz.ref, hlz.inc, by have := hlz.len; omega, hlz.sz' (by omega), ?_, hb.1⟩, hz b rfl⟩
    rw [otS_snap oth h8]
    show Dk.find snapB (lay1 (logB g) _ (snS (some b))).fs = _
    rw [find_lay1_ne (log_ne g).symm]
    exact snS_snap (some b)
theorem sn_len5 {b : List Nat} (hb : ∀ c ∈ b, c < 256) (h : snOk 5 b = true) : 5 ≤ b.length := by
  obtain ⟨s1, o1⟩ := snOk_body h
  have r1 := sumOk_read hb s1
  have hb2 : ∀ c ∈ bodyO b, c < 256 := take_lt hb _
  have r2 := congrArg List.length (body_read hb2 o1)
  rw [snBody_length] at r2
  rw [r1, List.length_append, num_length]
  omega
/-- a byte of a row of the call's own written over -/
theorem Own.setU {w : World} {o : Option Addr} {c : Nat} {xs : List UInt8} (h : Own BU w o c xs) (j : Nat) (hj : j < xs.length) (x : UInt8) :
    ∃ g, o = some ⟨g, 0, none⟩ ∧ w.frozen? ⟨g, j, none⟩ = false ∧ w.cell? ⟨g, j, none⟩ = some (bv (xs.getD j 0)) ∧ Own BU (w.setCell ⟨g, j, none⟩ (bv x)) o c (xs.set j x) ∧ Keeps (inO o) w (w.setCell ⟨g, j, none⟩ (bv x)) := by
  obtain ⟨g, rfl, hf, ho, hk⟩ := h.storeE okU j hj x
  have e : w.setCells g (j * BU.k) (BU.enc x) = w.setCell ⟨g, j, none⟩ (bv x) := by
    show w.setCells g (j * 1) [bv x] = _
    rw [Nat.mul_one]
    rfl
  rw [e] at ho hk
  refine ⟨g, rfl, hf j, ?_, ho, hk⟩
  rcases h.sl.row with e1 | ⟨b1, off, e1, hc⟩
  · rw [e1] at hj; simp at hj
  · cases e1
    have := hc j _ (by have := cells_at okU 0 xs j 0 hj (by decide); simpa [BU] using this)
    simpa using this
theorem rest_big (n : Int) (m : Nat) (w : World) (hn : I64 n) (hm : m ≤ 10000000000) :
    Calls Tryz.prog 17 #[.int .i64 n, .int .i64 ((m : Nat) : Int)] w fun e w' => e = .returned (.int .i64 ((rst n m : Nat) : Int)) ∧ w' = w := by
  have b1 := Int.tmod_lt_of_pos n (b := (m : Int) + 1) (by omega)
  have b2 : -((m : Int) + 1) < n.tmod ((m : Int) + 1) := by
    have := Int.lt_tmod_of_pos n (b := (m : Int) + 1) (by omega)
    omega
  have hm' : (m : Int) ≤ 10000000000 := by omega
  obtain ⟨h1, h2⟩ := hn
  have e1 := Int.emod_nonneg n (show ((m : Int) + 1) ≠ 0 by omega)
  have e2 := Int.emod_lt_of_pos n (show (0 : Int) < (m : Int) + 1 by omega)
  have HR : Hid ((rst n m : Int) = if n.tmod ((m : Int) + 1) < 0 then n.tmod ((m : Int) + 1) + m + 1 else n.tmod ((m : Int) + 1)) := by
    show _ = _
    have e : n.tmod ((m : Int) + 1) = n % ((m : Int) + 1) ∨ n.tmod ((m : Int) + 1) = n % ((m : Int) + 1) - ((m : Int) + 1) := by
      rw [Int.tmod_eq_emod]
      split
      · left; omega
      · right; omega
    unfold rst
    split <;> omega
  have hw : wrap64 (n.tmod ((m : Int) + 1)) = n.tmod ((m : Int) + 1) := IntWalk.wrap64_in _ ⟨by omega, by omega⟩
  obtain ⟨t, ht⟩ : ∃ t, t = n.tmod ((m : Int) + 1) := ⟨_, rfl⟩
  rw [← ht] at b1 b2 hw HR
  have HT : Hid (t = n.tmod ((m : Int) + 1)) := ht
  have ht' := ht.symm
  clear ht e1 e2 hm
  generalize rst n m = R at HR ⊢
  by_cases hn : t < 0
  · go_enter Tryz.func17, Tryz.ntmps17
    go_wp2
    go_ret
    refine ⟨?_, rfl⟩
    have := HR.out
    rw [if_pos hn] at this
    rw [this]; rfl
  · go_enter Tryz.func17, Tryz.ntmps17
    go_wp2
    go_ret
    refine ⟨?_, rfl⟩
    have := HR.out
    rw [if_neg (by omega)] at this
    rw [this]; rfl
theorem nts_set (b : List UInt8) (k : Nat) (x : UInt8) : nts (b.set k x) = (nts b).set k x.toNat := by unfold nts; rw [List.map_set]
theorem nts_getD (b : List UInt8) (k : Nat) : (nts b).getD k 0 = (b.getD k 0).toNat := by
  unfold nts
  rw [List.getD_eq_getElem?_getD, List.getD_eq_getElem?_getD, List.getElem?_map]
  cases b[k]? <;> rfl
/-- one byte changed -/
theorem turn_bad {b : List UInt8} (h : snOk 5 (nts b) = true) {k d : Nat} (hk : k < b.length) (hd : 0 < d) (h8 : d < 256) : snOk 5 (nts (b.set k (UInt8.ofNat ((b.getD k 0).toNat ^^^ d)))) = false := by
  have hlt : (b.getD k 0).toNat ^^^ d < 256 := xor_lt8 (UInt8.toNat_lt _) h8
  have e : (UInt8.ofNat ((b.getD k 0).toNat ^^^ d)).toNat = (nts b).getD k 0 ^^^ d := by
    rw [nts_getD, UInt8.toNat_ofNat']
    exact Nat.mod_eq_of_lt (by simpa using hlt)
  rw [nts_set, e]
  unfold snOk
  rw [set_bad (nts_lt b) (snOk_body h).1 (by rw [nts_length]; exact hk) hd h8]
  rfl
theorem short_bad {b : List UInt8} (h : snOk 5 (nts b) = true) {k : Nat} (hk : k < b.length) : snOk 5 (nts (b.take k)) = false := by
  rw [nts_take]
  exact cut_bad (nts_lt b) h (by rw [nts_length]; exact hk)
theorem box_gen {w w2 : World} {v : WV} (hb : w2.heap[w.heap.size]? = some (boxV v)) (hk : Keeps no w w2) (o : Int) :
    (w2.setCell ⟨w.heap.size, 0, none⟩ (.int .i64 o)).heap[w.heap.size]? = some (boxV { v with gen := o }) ∧ Keeps no w (w2.setCell ⟨w.heap.size, 0, none⟩ (.int .i64 o)) := by
  refine ⟨?_, hk.setCell (p := ⟨w.heap.size, 0, none⟩) (.inr (Nat.le_refl _)) _⟩
  rw [blk_set hb]
  rfl
end Go.Proofs.YtoijeipoblnliaaGreatDoor

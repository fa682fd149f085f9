/- marks: bytes written over, lengthened, looked at. -/
import Derived.Test.YtdbejihkliafiaaM0
namespace Go.Proofs.Ytdbejihkliafiaa
open Go.RowKit Go.Sort
set_option linter.unusedVariables false
set_option linter.unusedSimpArgs false

theorem ne_tag {w : World} {o o' : Option Addr} {c c' : Nat} {xs : List UInt8} {ys : List (LS UInt8)} (h : Oz BE w o c xs) (h' : Own XE w o' c' ys) : ∀ k, zO o c k → ¬ inO o' k := by
  intro k hk hk'
  obtain ⟨ca, ha⟩ := h.tag k hk
  obtain ⟨cb, hb⟩ := h'.tag k hk'
  rw [ha] at hb
  injection hb with hb
  injection hb with _ hb _
  exact absurd hb (by decide)
theorem Row.keepsE {α : Type} {E : El α} {S : Nat → Prop} {w w' : World} {a : Option Addr} {xs : List α} (h : Row E w a xs) (hk : Keeps S w w') (ha : xs ≠ [] → ∀ k, inO a k → ¬ S k) : Row E w' a xs := by
  by_cases hx : xs = []
  · exact .inl hx
  · exact h.keeps hk (ha hx)
theorem row_keepsZ {S : Nat → Prop} {w0 w w' : World} {o : Option Addr} {c : Nat} {ys : List UInt8} {m : UInt8} (h0 : Oz BE w0 o c ys) (h : Row BE w o (List.replicate ys.length m)) (hk : Keeps S w w') (hs : ∀ i, zO o c i → ¬ S i) : Row BE w' o (List.replicate ys.length m) :=
  h.keepsE hk (fun hn i hi => hs i ⟨by have h1 := h0.sl.cap; have h2 : ys.length ≠ 0 := (by intro e; rw [e] at hn; exact hn rfl); omega, hi⟩)
def mkB (i : Nat) : UInt8 := UInt8.ofNat (i + 1)
theorem bv_mkB (i : Nat) (h : i < 200) : bv (mkB i) = .int .u8 ((i : Int) + 1) := by
  simp only [bv, mkB]
  congr 1
  have : (UInt8.ofNat (i + 1)).toNat = i + 1 := by simp; omega
  omega
theorem getD_last (zs : List (LS UInt8)) (z : LS UInt8) (j : Nat) (h : zs.length = j) : (zs ++ [z]).getD j ls0 = z := by
  subst h
  simp [List.getD_eq_getElem?_getD]
theorem getD_front (zs : List (LS UInt8)) (z : LS UInt8) (j : Nat) (h : j < zs.length) : (zs ++ [z]).getD j ls0 = zs.getD j ls0 := by
  rw [List.getD_eq_getElem?_getD, List.getD_eq_getElem?_getD, List.getElem?_append_left h]
theorem rep_step (bs : List UInt8) (k : Nat) (m : UInt8) (h : k < bs.length) : (List.replicate k m ++ bs.drop k).set k m = List.replicate (k + 1) m ++ bs.drop (k + 1) := by
  rw [List.set_append_right _ _ (by simp)]
  simp only [List.length_replicate, Nat.sub_self]
  rw [List.drop_eq_getElem_cons h, List.set_cons_zero, List.replicate_succ', List.append_assoc]
  rfl
/-- bytes of a mark, and then k of 251 -/
def lng (n i k : Nat) : List UInt8 := List.replicate n (mkB i) ++ List.replicate k 251
theorem lng_len (n i k : Nat) : (lng n i k).length = n + k := by simp [lng]
theorem lng_next (n i k : Nat) : lng n i k ++ [251] = lng n i (k + 1) := by unfold lng; rw [List.append_assoc, ← List.replicate_succ']
theorem lng_take (n i k : Nat) : (lng n i k).take n = List.replicate n (mkB i) := by
  unfold lng; rw [List.take_append_of_le_length (by simp), List.take_of_length_le (by simp)]
theorem lng_at (n i k j : Nat) (h : j < n) : (lng n i k).getD j 0 = mkB i := by
  unfold lng
  rw [List.getD_eq_getElem?_getD, List.getElem?_append_left (by simpa using h)]
  simp [h]

/-- what 'marks' asks of the lists that it is handed -/
structure Mks (w : World) (ol : Option Addr) (ls : List (LS UInt8)) : Prop where
  l : Row XE w ol ls
  n : ls.length ≤ 100
  x : ∀ i, i < ls.length → Oz BE w (ls.getD i ls0).o (ls.getD i ls0).c (ls.getD i ls0).xs
  sz : ∀ i, i < ls.length → (ls.getD i ls0).xs.length ≤ 140737488351232
  ap : ∀ i j, i < ls.length → j < ls.length → i ≠ j → ∀ k, zO (ls.getD i ls0).o (ls.getD i ls0).c k → ¬ zO (ls.getD j ls0).o (ls.getD j ls0).c k
  tl : ∀ k, inO ol k → ∃ cur fz, w.heap[k]? = some (.cells cur 22 fz)
def Blk (ls : List (LS UInt8)) : Nat → Prop := fun k => ∃ i, i < ls.length ∧ zO (ls.getD i ls0).o (ls.getD i ls0).c k
theorem Mks.nb {w : World} {ol : Option Addr} {ls : List (LS UInt8)} (h : Mks w ol ls) : ∀ k, inO ol k → ¬ Blk ls k := by
  rintro k hk ⟨i, hi, hin⟩
  obtain ⟨cur, fz, ha⟩ := h.tl k hk
  obtain ⟨cb, hb⟩ := (h.x i hi).tag k hin
  rw [ha] at hb
  injection hb with hb
  injection hb with _ hb _
  exact absurd hb (by decide)
theorem Mks.lt {w : World} {ol : Option Addr} {ls : List (LS UInt8)} (h : Mks w ol ls) : ∀ k, Blk ls k → k < w.heap.size := by
  rintro k ⟨i, hi, hin⟩
  exact (h.x i hi).lt k hin

/-- behind the first loop's q rounds -/
structure Mk1 (w wq : World) (ls : List (LS UInt8)) (q : Nat) : Prop where
  kp : Keeps (Blk ls) w wq
  ow : ∀ j, j < ls.length → Oz BE wq (ls.getD j ls0).o (ls.getD j ls0).c (if j < q then List.replicate (ls.getD j ls0).xs.length (mkB j) else (ls.getD j ls0).xs)
/-- behind the second's -/
structure Mk2 (w wr : World) (ls : List (LS UInt8)) (oL : Option Addr) (cL q : Nat) (zs : List (LS UInt8)) : Prop where
  kp : Keeps (Blk ls) w wr
  zl : zs.length = q
  ox : Own XE wr oL cL zs
  nw : New w oL
  row : ∀ j, j < ls.length → Row BE wr (ls.getD j ls0).o (List.replicate (ls.getD j ls0).xs.length (mkB j))
  ow : ∀ j, q ≤ j → j < ls.length → Oz BE wr (ls.getD j ls0).o (ls.getD j ls0).c (List.replicate (ls.getD j ls0).xs.length (mkB j))
  z : ∀ j, j < q → (zs.getD j ls0).xs = lng (ls.getD j ls0).xs.length j 80 ∧ Oz BE wr (zs.getD j ls0).o (zs.getD j ls0).c (zs.getD j ls0).xs
  zo : ∀ j, j < q → ((zs.getD j ls0).o = (ls.getD j ls0).o ∧ (zs.getD j ls0).c = (ls.getD j ls0).c) ∨ ∀ k, zO (zs.getD j ls0).o (zs.getD j ls0).c k → w.heap.size ≤ k

theorem Mk1.next {w wq wp : World} {ls : List (LS UInt8)} {ol : Option Addr} {q : Nat} (h : Mks w ol ls) (h1 : Mk1 w wq ls q) (hq : q < ls.length) (hk : Keeps (zO (ls.getD q ls0).o (ls.getD q ls0).c) wq wp) (ho : Oz BE wp (ls.getD q ls0).o (ls.getD q ls0).c (List.replicate (ls.getD q ls0).xs.length (mkB q))) : Mk1 w wp ls (q + 1) := by
  refine ⟨h1.kp.trans (hk.mono fun x hx => ⟨q, hq, hx⟩), fun j hj => ?_⟩
  by_cases e : j = q
  · subst e; rw [if_pos (by omega)]; exact ho
  · have := (h1.ow j hj).keeps hk (fun k hk1 hk2 => h.ap j q hj hq e k hk1 hk2)
    by_cases hjl : j < q
    · rw [if_pos hjl] at this; rw [if_pos (by omega)]; exact this
    · rw [if_neg hjl] at this; rw [if_neg (by omega)]; exact this
theorem Mk2.next {w wr wp w4 : World} {ls : List (LS UInt8)} {ol oL ox o4 : Option Addr} {cL cx c4 q : Nat} {zs : List (LS UInt8)} (h : Mks w ol ls) (h2 : Mk2 w wr ls oL cL q zs) (hq : q < ls.length) (hk : Keeps (zO (ls.getD q ls0).o (ls.getD q ls0).c) wr wp)
    (hr : Row BE wp (ls.getD q ls0).o (List.replicate (ls.getD q ls0).xs.length (mkB q))) (hx : Oz BE wp ox cx (lng (ls.getD q ls0).xs.length q 80)) (hox : (ox = (ls.getD q ls0).o ∧ cx = (ls.getD q ls0).c) ∨ ∀ k, zO ox cx k → wr.heap.size ≤ k)
    (O : Obj) (ho4 : Own XE w4 o4 c4 (zs ++ [⟨ox, cx, lng (ls.getD q ls0).xs.length q 80⟩])) (hap : Ap (wp.alloc O) oL o4 w4) : Mk2 w w4 ls o4 c4 (q + 1) (zs ++ [⟨ox, cx, lng (ls.getD q ls0).xs.length q 80⟩]) := by
  have hXlt : ∀ j, j < ls.length → ∀ k, zO (ls.getD j ls0).o (ls.getD j ls0).c k → k < w.heap.size := fun j hj k hk => (h.x j hj).lt k hk
  have hoXp : Own XE wp oL cL zs := h2.ox.keeps hk (fun k h1 h3 => by have := h2.nw k h1; have := hXlt q hq k h3; omega)
  have hK : Keeps (inO oL) wp w4 := by
    rcases hap with ⟨_, hk4⟩ | ⟨_, hk4⟩
    · exact ((Keeps.refl (inO oL) wp).alloc O).trans hk4
    · exact ((Keeps.refl (inO oL) wp).alloc O).trans hk4.of_no
  have s1 := h2.kp.size
  have s2 := hk.size
  have hne : ∀ j, j < ls.length → ∀ k, zO (ls.getD j ls0).o (ls.getD j ls0).c k → ¬ inO oL k := fun j hj k h1 h3 => by have := h2.nw k h3; have := hXlt j hj k h1; omega
  refine ⟨?_, by rw [List.length_append, h2.zl]; rfl, ho4, ?_, ?_, ?_, ?_, ?_⟩
  · exact (h2.kp.trans (hk.mono fun x hx => ⟨q, hq, hx⟩)).then hK (fun i hi => .inr (h2.nw i hi))
  · rcases hap with ⟨rfl, _⟩ | ⟨⟨g, rfl, hg⟩, _⟩
    · exact h2.nw
    · rintro k ⟨y, e, rfl⟩
      cases e
      rw [World.size_alloc] at hg
      show _ ≤ g
      omega
  · intro j hj
    by_cases e : j = q
    · subst e; exact row_keepsZ (h.x j hj) hr hK (hne j hj)
    · exact row_keepsZ (h.x j hj) (row_keepsZ (h.x j hj) (h2.row j hj) hk (fun k h1 h3 => h.ap j q hj hq e k h1 h3)) hK (hne j hj)
  · intro j hqj hj
    exact ((h2.ow j (by omega) hj).keeps hk (fun k h1 h3 => h.ap j q hj hq (by omega) k h1 h3)).keeps hK (hne j hj)
  · intro j hj
    by_cases e : j = q
    · subst e
      rw [getD_last zs _ j h2.zl]
      exact ⟨rfl, hx.keeps hK (ne_tag hx hoXp)⟩
    · rw [getD_front zs _ j (by have := h2.zl; omega)]
      obtain ⟨z1, z2⟩ := h2.z j (by omega)
      have z3 : Oz BE wp (zs.getD j ls0).o (zs.getD j ls0).c (zs.getD j ls0).xs := z2.keeps hk (fun k h1 h3 => by
        rcases h2.zo j (by omega) with e2 | e2
        · rw [e2.1, e2.2] at h1; exact h.ap j q (by omega) hq e k h1 h3
        · have := e2 k h1; have := hXlt q hq k h3; omega)
      exact ⟨z1, z3.keeps hK (ne_tag z3 hoXp)⟩
  · intro j hj
    by_cases e : j = q
    · subst e
      rw [getD_last zs _ j h2.zl]
      rcases hox with e2 | e2
      · exact .inl e2
      · exact .inr (fun k hk => Nat.le_trans s1 (e2 k hk))
    · rw [getD_front zs _ j (by have := h2.zl; omega)]
      exact h2.zo j (by omega)

set_option maxRecDepth 100000 in
set_option maxHeartbeats 0 in
theorem marks_any (w : World) (ol : Option Addr) (cl N : Nat) (ls : List (LS UInt8)) (hN : N = ls.length) (h : Mks w ol ls) :
    Calls Try.prog 17 #[.slice ol N cl] w fun e w' => e = .returned (.bool true) ∧ Keeps (Blk ls) w w' := by
  have HN : Hid (N = ls.length) := hN
  have hN5 : N ≤ 100 := by have := h.n; omega
  have HM : Hid (Mks w ol ls) := h
  clear hN h
  go_enter Try.func17, Try.ntmps17
  go_wp2_with fail
  go_loopw [3] (fun i wq => ∃ q : Nat, q ≤ N ∧ i = .int .i64 q ∧ Hid (Mk1 w wq ls q)) (fun i _ => N - (intOf i).toNat)
  case atStart => exact ⟨0, by omega, rfl, ⟨Keeps.refl _ _, fun j hj => by rw [if_neg (by omega)]; exact HM.out.x j hj⟩⟩
  case round =>
    rename World => wq
    obtain ⟨q, hq, rfl, H1⟩ := hrel
    by_cases hlt : q < N
    · have hqx : q < ls.length := by have := HN.out; omega
      have HQX : Hid (q < ls.length) := hqx
      have hFX := H1.out.ow q hqx
      rw [if_neg (by omega)] at hFX
      obtain ⟨b1, f1, rfl, hcl⟩ := rowX_at HM.out.l hqx
      have HB1 : Hid (¬ Blk ls b1) := HM.out.nb b1 ⟨_, rfl, rfl⟩
      have hnX := HM.out.sz q hqx
      obtain ⟨X, hX⟩ : ∃ X, X = ls.getD q ls0 := ⟨_, rfl⟩
      have HX : Hid (X = ls.getD q ls0) := hX
      rw [← hX] at hFX hcl hnX
      obtain ⟨nX, hnn⟩ : ∃ nX, nX = X.xs.length := ⟨_, rfl⟩
      rw [← hnn] at hcl hnX
      have HNN : Hid (nX = X.xs.length) := hnn
      have HFX : Hid (Oz BE wq X.o X.c X.xs) := hFX
      have HCL : Hid (w.cell? ⟨b1, f1 + q, none⟩ = some (.slice X.o nX X.c)) := hcl
      clear hFX hcl hX hnn hqx
      go_wp2_with fail
      go_loopw [4] (fun i wp => ∃ k : Nat, k ≤ nX ∧ i = .int .i64 k ∧ Hid (Keeps (zO X.o X.c) wq wp ∧ Oz BE wp X.o X.c (List.replicate k (mkB q) ++ X.xs.drop k))) (fun i _ => nX - (intOf i).toNat)
      case atStart => exact ⟨0, by omega, rfl, ⟨Keeps.refl _ _, by simpa using HFX.out⟩⟩
      case round =>
        rename World => wp
        obtain ⟨k, hk, rfl, HO⟩ := hrel
        have hKw : Keeps (Blk ls) w wp := H1.out.kp.trans (HO.out.1.mono (fun x hx => ⟨q, HQX.out, by rw [← HX.out]; exact hx⟩))
        have g1 := hKw.cell HCL.out HB1.out
        clear hKw
        by_cases hlk : k < nX
        · obtain ⟨g, hg, hc, hf, hO2, hK2⟩ := HO.out.2.store k (by have := HNN.out; simp; omega) (mkB q)
          rw [rep_step X.xs k (mkB q) (by have := HNN.out; omega)] at hO2
          rw [hg] at g1
          rw [bv_mkB q (by omega)] at hO2 hK2
          have HO2 : Hid (Oz BE (wp.setCell ⟨g, k, none⟩ (.int .u8 ((q : Int) + 1))) X.o X.c (List.replicate (k + 1) (mkB q) ++ X.xs.drop (k + 1))) := hO2
          have HK2 : Hid (Keeps (zO X.o X.c) wp (wp.setCell ⟨g, k, none⟩ (.int .u8 ((q : Int) + 1)))) := hK2
          clear hO2 hK2 hg
          go_wp2_with fail
          go_roundw
          case rel => exact ⟨k + 1, by omega, by go_num, ⟨HO.out.1.trans HK2.out, HO2.out⟩⟩
          case measure => simp [intOf]; omega
        · have hkn : nX = k := by omega
          go_wp2_with fail
          go_roundw
          case rel =>
            refine ⟨q + 1, by omega, by go_num, ?_⟩
            have hO := HO.out.2
            rw [← hkn, HNN.out, List.drop_length, List.append_nil] at hO
            have hK := HO.out.1
            rw [HX.out] at hO hK
            exact H1.out.next HM.out HQX.out hK hO
          case measure => simp [intOf]; omega
    · have hqN : q = N := by omega
      subst q
      have H2 : Hid (Mk2 w wq ls none 0 0 []) := ⟨H1.out.kp, rfl, own_nil _, new_none _, fun j hj => by have := (H1.out.ow j hj).row; rw [if_pos (by have := HN.out; omega)] at this; exact this, fun j _ hj => by have := H1.out.ow j hj; rw [if_pos (by have := HN.out; omega)] at this; exact this, fun j hj => by omega, fun j hj => by omega⟩
      clear H1 hq hlt
      go_wp2_with fail
      go_loopw [5, 6] (fun l i wr => ∃ (q : Nat) (oL : Option Addr) (cL : Nat) (zs : List (LS UInt8)), q ≤ N ∧ i = .int .i64 q ∧ l = .slice oL q cL ∧ Hid (Mk2 w wr ls oL cL q zs)) (fun _ i _ => N - (intOf i).toNat)
      case atStart => exact ⟨0, none, 0, [], by omega, rfl, rfl, H2.out⟩
      case round =>
        rename World => wr
        clear H2
        obtain ⟨q, oL, cL, zs, hq, rfl, rfl, H2⟩ := hrel
        by_cases hlt : q < N
        · have hqx : q < ls.length := by have := HN.out; omega
          have HQX : Hid (q < ls.length) := hqx
          have hFX := H2.out.ow q (Nat.le_refl _) hqx
          have hRX := H2.out.row q hqx
          obtain ⟨b1, f1, rfl, hcl⟩ := rowX_at HM.out.l hqx
          have hcl := H2.out.kp.cell hcl (HM.out.nb b1 ⟨_, rfl, rfl⟩)
          have hnX := HM.out.sz q hqx
          have hXlt : ∀ y, zO (ls.getD q ls0).o (ls.getD q ls0).c y → y < wr.heap.size := fun y hy => Nat.lt_of_lt_of_le ((HM.out.x q hqx).lt y hy) H2.out.kp.size
          obtain ⟨X, hX⟩ : ∃ X, X = ls.getD q ls0 := ⟨_, rfl⟩
          have HX : Hid (X = ls.getD q ls0) := hX
          rw [← hX] at hFX hcl hnX hRX hXlt
          obtain ⟨nX, hnn⟩ : ∃ nX, nX = X.xs.length := ⟨_, rfl⟩
          rw [← hnn] at hcl hnX hFX hRX
          have HNN : Hid (nX = X.xs.length) := hnn
          have HFX : Hid (Oz BE wr X.o X.c (List.replicate nX (mkB q))) := hFX
          have HRX : Hid (Row BE wr X.o (List.replicate nX (mkB q))) := hRX
          have HXC : Hid (nX ≤ X.c) := (by have h9 := hFX.sl.cap; simpa using h9 : nX ≤ X.c)
          have HXL : Hid (∀ y, zO X.o X.c y → y < wr.heap.size) := hXlt
          clear hFX hX hnn hqx hRX hXlt
          go_wp2_with fail
          go_loopw [7, 8] (fun x i wp => ∃ (k M : Nat) (ox : Option Addr) (cx : Nat), k ≤ 80 ∧ i = .int .i64 k ∧ x = .slice ox M cx ∧ Hid (M = nX + k ∧ Oz BE wp ox cx (lng nX q k) ∧ ((ox = X.o ∧ cx = X.c) ∨ ∀ y, zO ox cx y → wr.heap.size ≤ y) ∧ Row BE wp X.o (List.replicate nX (mkB q)) ∧ Keeps (zO X.o X.c) wr wp)) (fun _ i _ => 80 - (intOf i).toNat)
          case atStart => exact ⟨0, nX, X.o, X.c, by omega, rfl, rfl, ⟨rfl, by simpa [lng] using HFX.out, .inl ⟨rfl, rfl⟩, HRX.out, Keeps.refl _ _⟩⟩
          case round =>
            rename World => wp
            obtain ⟨k, M, ox, cx, hk, rfl, rfl, HI⟩ := hrel
            by_cases hlk : k < 80
            · have HLR : Hid (Row BE (wp.alloc (.cells #[.int .u8 251] 5)) (some ⟨wp.heap.size, 0, none⟩) [251]) := (lit_row okB wp [251] #[bv 251] (0, 0) (by simp [cells_B]))
              have HBD : Hid (M = (lng nX q k).length ∧ ((lng nX q k).length + [(251 : UInt8)].length) * BE.nb ≤ 140737488355328 ∧ (lng nX q k).length + [(251 : UInt8)].length ≤ 140737488355328) := ⟨by rw [lng_len]; exact HI.out.1, by rw [lng_len]; simp [BE]; omega, by rw [lng_len]; simp; omega⟩
              have HOA : Hid (Oz BE (wp.alloc (.cells #[.int .u8 251] 5)) ox cx (lng nX q k)) := HI.out.2.1.keepsN ((Keeps.refl _ _).alloc _)
              go_wp2_with (at_builtin; go_must (refine wpList_ozApp okB rfl _ _ rfl ox _ cx (lng nX q k) rfl HBD.out.1 HOA.out ⟨wp.heap.size, 0, none⟩ 1 1 [251] rfl rfl (by decide) HLR.out HBD.out.2.1 HBD.out.2.2 ?_); intro o3 c3 w3 hown3 hap3)
              go_roundw
              case rel =>
                obtain ⟨i1, i2, i3, i4, i5⟩ := HI.out
                rw [lng_next] at hown3
                refine ⟨k + 1, M + 1, o3, c3, by omega, by go_num, rfl, ⟨by omega, hown3, ?_⟩⟩
                have hpa : Keeps no wp (wp.alloc (.cells #[.int .u8 251] 5)) := (Keeps.refl _ _).alloc _
                rcases hap3 with ⟨rfl, rfl, _, hk3⟩ | ⟨⟨g, rfl, hg⟩, hk3⟩
                · rcases i3 with ⟨rfl, rfl⟩ | hfr
                  · refine ⟨.inl ⟨rfl, rfl⟩, ?_, (i5.alloc _).trans hk3⟩
                    have := hown3.row.take okB nX
                    rw [lng_take] at this
                    exact this
                  · refine ⟨.inr hfr, ?_, (i5.alloc _).then hk3 (fun i hi => .inr (hfr i hi))⟩
                    exact (i4.keepsN hpa).keepsE hk3 (fun hn x hx hin => by have h1 := hfr _ hin; have h2 := HXL.out x ⟨by have h3 : nX ≠ 0 := (by rintro rfl; exact hn rfl); have h4 := HXC.out; omega, hx⟩; omega)
                · refine ⟨.inr ?_, (i4.keepsN hpa).keepsN hk3, (i5.alloc _).trans hk3.of_no⟩
                  rintro y ⟨_, z, hz, rfl⟩
                  cases hz
                  have := i5.size
                  rw [World.size_alloc] at hg
                  show wr.heap.size ≤ g
                  omega
              case measure => simp [intOf]; omega
            · have hk80 : k = 80 := by omega
              subst hk80
              have hM := HI.out.1
              have HLR : Hid (Row XE (wp.alloc (.cells #[.slice ox M cx] 22)) (some ⟨wp.heap.size, 0, none⟩) [⟨ox, cx, lng nX q 80⟩]) := (lit_row okX wp [⟨ox, cx, lng nX q 80⟩] #[.slice ox M cx] (0, 0) (by simp [El.cells, XE, LS.enc, lng_len, hM]))
              have HBD : Hid (q = zs.length ∧ (zs.length + [(⟨ox, cx, lng nX q 80⟩ : LS UInt8)].length) * XE.nb ≤ 140737488355328 ∧ zs.length + [(⟨ox, cx, lng nX q 80⟩ : LS UInt8)].length ≤ 140737488355328) := ⟨H2.out.zl.symm, by rw [H2.out.zl]; simp [XE]; omega, by rw [H2.out.zl]; simp; omega⟩
              have HOA : Hid (Own XE (wp.alloc (.cells #[.slice ox M cx] 22)) oL cL zs) := (H2.out.ox.keeps HI.out.2.2.2.2 (fun k h1 h3 => by have := H2.out.nw k h1; have := (HM.out.x q HQX.out).lt k (by rw [← HX.out]; exact h3); omega)).keepsN ((Keeps.refl _ _).alloc _)
              clear hM
              go_wp2_with (at_builtin; go_must (refine wpList_app okX rfl _ _ rfl oL _ cL zs rfl HBD.out.1 HOA.out (some ⟨wp.heap.size, 0, none⟩) 1 1 [⟨ox, cx, lng nX q 80⟩] rfl rfl (fun e => by cases e) HLR.out HBD.out.2.1 HBD.out.2.2 ?_); intro o4 c4 w4 hown4 hap4)
              go_roundw
              case rel =>
                obtain ⟨i1, i2, i3, i4, i5⟩ := HI.out
                rw [HNN.out, HX.out] at i2 i4 hown4
                rw [HX.out] at i3 i5
                refine ⟨q + 1, o4, c4, _, by omega, by go_num, rfl, H2.out.next HM.out HQX.out i5 i4 i2 i3 _ hown4 hap4⟩
              case measure => simp [intOf]; omega
        · have hqN : q = N := by omega
          subst q
          clear hq hlt
          go_wp2_with fail
          go_loopw [9] (fun i wu => ∃ j : Nat, j ≤ N ∧ i = .int .i64 j ∧ wu = wr) (fun i _ => N - (intOf i).toNat)
          case atStart => exact ⟨0, by omega, rfl, rfl⟩
          case round =>
            obtain ⟨j, hj, rfl, e⟩ := hrel
            rename World => wu
            subst wu
            by_cases hlj : j < N
            · have hjx : j < ls.length := by have := HN.out; omega
              have hnX := HM.out.sz j hjx
              have hRX := H2.out.row j hjx
              obtain ⟨z1, hOZ⟩ := H2.out.z j (by omega)
              have hRZ := hOZ.row
              obtain ⟨b1, f1, rfl, hcl⟩ := rowX_at HM.out.l hjx
              have hcl := H2.out.kp.cell hcl (HM.out.nb b1 ⟨_, rfl, rfl⟩)
              obtain ⟨bL, fL, rfl, hcL⟩ := rowX_at H2.out.ox.row (j := j) (by have := H2.out.zl; omega)
              obtain ⟨X, hX⟩ : ∃ X, X = ls.getD j ls0 := ⟨_, rfl⟩
              obtain ⟨Z, hZ⟩ : ∃ Z, Z = zs.getD j ls0 := ⟨_, rfl⟩
              rw [← hX] at hnX hRX hcl z1
              rw [← hZ] at hRZ hcL z1
              obtain ⟨nX, hnn⟩ : ∃ nX, nX = X.xs.length := ⟨_, rfl⟩
              rw [← hnn] at hnX hRX hcl z1
              rw [z1] at hRZ
              rw [z1, lng_len] at hcL
              have HRX : Hid (Row BE wr X.o (List.replicate nX (mkB j))) := hRX
              have HRZ : Hid (Row BE wr Z.o (lng nX j 80)) := hRZ
              clear hRX hRZ z1 hX hZ hnn hOZ hjx
              go_wp2_with fail
              go_loopw [10] (fun i wu => ∃ k : Nat, k ≤ nX ∧ i = .int .i64 k ∧ wu = wr) (fun i _ => nX - (intOf i).toNat)
              case atStart => exact ⟨0, by omega, rfl, rfl⟩
              case round =>
                obtain ⟨k, hk, rfl, e⟩ := hrel
                rename World => wu
                subst wu
                by_cases hlk : k < nX
                · obtain ⟨bx, fx, ex, hx⟩ := rowB_at HRX.out (j := k) (by simpa using hlk)
                  obtain ⟨bz, fz, ez, hz⟩ := rowB_at HRZ.out (j := k) (by rw [lng_len]; omega)
                  have em : (List.replicate nX (mkB j)).getD k 0 = mkB j := by simp [List.getD_eq_getElem?_getD, hlk]
                  rw [em, bv_mkB j (by omega)] at hx
                  rw [lng_at nX j 80 k hlk, bv_mkB j (by omega)] at hz
                  rw [ex] at hcl
                  rw [ez] at hcL
                  clear ex ez em
                  go_wp2_with fail
                  go_roundw
                  case rel => exact ⟨k + 1, by omega, by go_num, by trivial⟩
                  case measure => simp [intOf]; omega
                · have hkn : k = nX := by omega
                  go_wp2_with fail
                  go_roundw
                  case rel => exact ⟨j + 1, by omega, by go_num, by trivial⟩
                  case measure => simp [intOf]; omega
            · go_wp2
              go_ret
              exact ⟨rfl, H2.out.kp⟩
end Go.Proofs.Ytdbejihkliafiaa

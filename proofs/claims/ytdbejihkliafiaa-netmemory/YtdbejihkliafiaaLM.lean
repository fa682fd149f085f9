/- NetMemory. -/
import Derived.Test.YtdbejihkliafiaaM2
import Derived.Deep.RegionHeld3
import Derived.Deep.CutBlock
import Derived.Deep.CutRange
namespace Go.Proofs.Ytdbejihkliafiaa
open Go.RowKit Go.Sort
set_option linter.unusedVariables false
set_option linter.unusedSimpArgs false

def m5 (lb lc : List UInt8) : NS := ⟨3, 2, 4, [⟨1, -1, 2, lb⟩, ⟨2, 0, -2, lc⟩, ⟨4, -1, 2, lb⟩]⟩
def m6 (lb lc : List UInt8) : NS := ⟨3, 2, 4, [⟨1, -1, 2, lb⟩, ⟨2, 0, -2, lc⟩]⟩
def m7 (lc : List UInt8) : NS := ⟨3, 2, 4, [⟨2, 0, -2, lc⟩]⟩
/-- one frame told -/
def One (w : World) (o : Option Addr) (c : Nat) (X : Option Addr × Nat) (lc : List UInt8) : Prop := ∃ rs, Fs FE w o c rs (m7 lc).fl ∧ (rs.getD 0 rf0).o = X.1 ∧ (rs.getD 0 rf0).c = X.2
theorem One.at {w : World} {o : Option Addr} {c : Nat} {X : Option Addr × Nat} {lc : List UInt8} (h : One w o c X lc) : ∃ g, o = some ⟨g, 0, none⟩ ∧ w.cell? ⟨g, 3, none⟩ = some (.slice X.1 lc.length X.2) ∧ Oz BE w X.1 X.2 lc ∧ ∃ cur, w.heap[g]? = some (.cells cur 33 (0, 0)) := by
  obtain ⟨rs, h1, h2, h3⟩ := h
  have hl : 0 < (m7 lc).fl.length := by show 0 < 1; decide
  obtain ⟨g, e, _, A⟩ := own_at4 okF h1.own (j := 0) (by rw [h1.len]; exact hl)
  have hF := h1.each 0 hl
  have c3 := A.c3
  have e9 : ((m7 lc).fl.getD 0 fr0).bs.length = lc.length := rfl
  rw [hF.n, e9, h2, h3] at c3
  have hb := hF.bz
  rw [h2, h3] at hb
  exact ⟨g, e, by simpa using c3, hb, h1.own.tag g ⟨_, e, rfl⟩⟩
theorem one_of {lc : List UInt8} {w w' : World} {e : Ending} (h : FTo FE w (m7 lc).fl e w') : ∃ o c X, e = .returned (.slice o 1 c) ∧ One w' o c X lc ∧ Keeps no w w' ∧ ∀ j, zO X.1 X.2 j → w.heap.size ≤ j := by
  obtain ⟨o, n, c, rs, rfl, hn, h1, h2, h3⟩ := h
  have hn4 : n = 1 := hn
  subst hn4
  rcases h1 with ⟨_, e, _⟩ | h1
  · cases e
  · have hc : 0 < c := by have := h1.own.cap.1; have := h1.len; have e : (m7 lc).fl.length = 1 := rfl; omega
    exact ⟨o, c, ((rs.getD 0 rf0).o, (rs.getD 0 rf0).c), rfl, ⟨rs, h1, rfl, rfl⟩, h3, fun j hj => h2 j hc (.inr ⟨0, (by decide : 0 < 1), hj⟩)⟩
theorem m4_eq (lb lc : List UInt8) : twinS (twinS (sendS (sendS (newS 3 2) (-1) 2 lb) 0 (-2) lc) 0) 0 = m4 lb lc := rfl
def LSt (wA w : World) (A B C D : Nat) (ox : Option Addr) (cx : Nat) (X : Nat → Option Addr × Nat) (oy : Option Addr) (cy : Nat) (Y : Nat → Option Addr × Nat) (oz : Option Addr) (cz : Nat) (Z : Nat → Option Addr × Nat) (lb lc : List UInt8) (ol : Option Addr) (cl i : Nat) : Prop :=
  Thr w A B C D ox cx X (up 77 i) oy cy Y (up 78 i) oz cz Z lb lc ∧ Own XE w ol cl (LL X Y Z lb lc (3 * i)) ∧ (∀ k, inO ol k → D ≤ k) ∧ Keeps no wA w ∧ D ≤ w.heap.size
theorem LSt.same {wA w : World} {A B C D : Nat} {ox : Option Addr} {cx : Nat} {X : Nat → Option Addr × Nat} {oy : Option Addr} {cy : Nat} {Y : Nat → Option Addr × Nat} {oz : Option Addr} {cz : Nat} {Z : Nat → Option Addr × Nat} {lb lc : List UInt8} {ol : Option Addr} {cl i : Nat} (h : LSt wA w A B C D ox cx X oy cy Y oz cz Z lb lc ol cl i) {ol' : Option Addr} {cl' : Nat} {w3 w4 w5 : World} (hi : i < 4) (hA : A = wA.heap.size)
    (ho : Own XE w3 ol' cl' (LL X Y Z lb lc (3 * i) ++ [⟨(X i).1, (X i).2, bsAt lb lc i⟩, ⟨(Y i).1, (Y i).2, bsAt lb lc i⟩, ⟨(Z i).1, (Z i).2, bsAt lb lc i⟩])) (hap : Ap w4 ol ol' w3) (k4 : Keeps no w w4) {gx gy : Nat} (ex : ox = some ⟨gx, 0, none⟩) (ey : oy = some ⟨gy, 0, none⟩) (e5 : w5 = (w3.setCell ⟨gx, i * 4 + 1, none⟩ (.int .i64 77)).setCell ⟨gy, i * 4 + 1, none⟩ (.int .i64 78)) : LSt wA w5 A B C D ox cx X oy cy Y oz cz Z lb lc ol' cl' (i + 1) := by
  obtain ⟨h1, h2, h3, h4, h5⟩ := h
  have hab := h1.ab
  have hbc := h1.bc
  have hcd := h1.cd
  obtain ⟨gx', ex', lx1, lx2, _⟩ := h1.x.blk
  obtain ⟨gy', ey', ly1, ly2, _⟩ := h1.y.blk
  rw [ex] at ex'
  rw [ey] at ey'
  cases ex'
  cases ey'
  have kl : Keeps (inO ol) w w3 := by
    rcases hap with ⟨_, k⟩ | ⟨_, k⟩
    · exact k4.of_no.trans k
    · exact (k4.trans k).of_no
  have t3 := h1.keeps kl (fun i a b e => by have := h3 i e; omega)
  have up1 : ∀ v j, up v (i + 1) j = if j = i then v else up v i j := by
    intro v j
    unfold up
    by_cases e : j = i
    · rw [if_pos (by omega), if_pos e]
    · rw [if_neg e]
      by_cases e2 : j < i
      · rw [if_pos (by omega), if_pos e2]
      · rw [if_neg (by omega), if_neg e2]
  obtain ⟨x1, x2⟩ := t3.x.set ex hi 77 (up1 77)
  obtain ⟨y1, y2⟩ := (t3.y.keeps x2 (fun j a b e => by omega)).set ey hi 78 (up1 78)
  subst e5
  have kw : Keeps (fun j => j = gx ∨ j = gy) w3 ((w3.setCell ⟨gx, i * 4 + 1, none⟩ (.int .i64 77)).setCell ⟨gy, i * 4 + 1, none⟩ (.int .i64 78)) := (x2.mono (fun j e => .inl e)).trans (y2.mono (fun j e => .inr e))
  have hln : ∀ j, inO ol' j → D ≤ j := by
    rcases hap with ⟨rfl, _⟩ | ⟨⟨g, rfl, hg⟩, _⟩
    · exact h3
    · rintro j ⟨x, e, rfl⟩
      cases e
      have := k4.size
      show D ≤ g
      omega
  refine ⟨⟨x1.keeps y2 (fun j a b e => by omega), y1, (t3.z.keeps x2 (fun j a b e => by omega)).keeps y2 (fun j a b e => by omega), hab, hbc, hcd⟩, ?_, hln, ?_, ?_⟩
  · rw [LL_next]
    exact ho.keeps kw (fun j hj e => by have := hln j hj; omega)
  · refine (h4.then kl (fun j hj => .inr (by have := h3 j hj; omega))).then kw (fun j hj => .inr (by omega))
  · have := kl.size
    have := kw.size
    omega
set_option maxRecDepth 20000 in
set_option maxHeartbeats 8000000 in
theorem netMemory_any (w : World) (ao : Option Addr) (an ac : Nat) (lb : List UInt8) (co : Option Addr) (cn cc : Nat) (lc : List UInt8) (han : an = lb.length) (hlb : lb.length ≤ 140737488351232) (hsb : Sl BE w ao ac lb) (hcn : cn = lc.length) (hlc : lc.length ≤ 140737488351232) (hsc : Sl BE w co cc lc) :
    Calls Try.prog 5 #[.slice ao an ac, .slice co cn cc] w fun e w' => e = .returned (.bool true) ∧ Keeps no w w' := by
  have HOB : Hid (∀ X, Keeps no w X → Calls Try.prog 10 #[.slice ao an ac] X fun e w' => ∃ v, e = .returned v ∧ Gives BE X lb v w') := fun X hX => own_any X ao an ac lb han (hsb.keepsN hX) (by omega)
  have HOC : Hid (∀ X, Keeps no w X → Calls Try.prog 10 #[.slice co cn cc] X fun e w' => ∃ v, e = .returned v ∧ Gives BE X lc v w') := fun X hX => own_any X co cn cc lc hcn (hsc.keepsN hX) (by omega)
  have HAB : Hid (an = lb.length ∧ cn = lc.length ∧ Sl BE w ao ac lb ∧ Sl BE w co cc lc ∧ lb.length ≤ 140737488351232 ∧ lc.length ≤ 140737488351232) := ⟨han, hcn, hsb, hsc, hlb, hlc⟩
  clear han hlb hsb hcn hlc hsc
  go_enter Try.func5, Try.ntmps5
  go_wp2_with fail
  refine (alive_any w).mono ?_
  rintro e w0 ⟨rfl, hk0⟩
  have HK0 : Hid (Keeps no w w0) := hk0
  clear hk0
  go_wp2_with fail
  refine (new_ok w0 3 2 (by decide)).mono ?_
  rintro e w1 ⟨p, rfl, hx⟩
  have H1 : Hid (Nx IsN w0 w1 p (newS 3 2) no ∧ NWf (newS 3 2) 0) := ⟨hx, newS_wf (by decide) (by decide) (by decide) (by decide)⟩
  clear hx
  go_wp2_with fail
  refine (HOB.out w1 (HK0.out.trans H1.out.1.kp)).mono ?_
  rintro e w2 ⟨v, rfl, o2, n2, c2, rfl, hn2, ho2, hw2, hk2⟩
  have H2 : Hid (Own BE w2 o2 c2 lb ∧ New w1 o2 ∧ Keeps no w1 w2) := ⟨ho2, hw2, hk2⟩
  clear ho2 hw2 hk2
  go_wp2_with fail
  refine (Nx.send H1.out.1 H1.out.2 (by decide) H2.out.2.2 H2.out.1.sl hn2.out (by have := HAB.out.2.2.2.2.1; omega) H2.out.2.1 (-1) 2).mono ?_
  rintro e w3 ⟨rfl, hx, -⟩
  have H3 : Hid (Nx IsN w0 w3 p (sendS (newS 3 2) (-1) 2 lb) no ∧ NWf (sendS (newS 3 2) (-1) 2 lb) 1) := ⟨hx, H1.out.2.send _ _ (by have := HAB.out.2.2.2.2.1; omega)⟩
  clear hx H1 H2 hn2
  go_wp2_with fail
  refine (HOC.out w3 (HK0.out.trans H3.out.1.kp)).mono ?_
  rintro e w4 ⟨v, rfl, o2, n2, c2, rfl, hn2, ho2, hw2, hk2⟩
  have H2 : Hid (Own BE w4 o2 c2 lc ∧ New w3 o2 ∧ Keeps no w3 w4) := ⟨ho2, hw2, hk2⟩
  clear ho2 hw2 hk2
  go_wp2_with fail
  refine (Nx.send H3.out.1 H3.out.2 (by decide) H2.out.2.2 H2.out.1.sl hn2.out (by have := HAB.out.2.2.2.2.2; omega) H2.out.2.1 0 (-2)).mono ?_
  rintro e w5 ⟨rfl, hx, -⟩
  have H5 : Hid (Nx IsN w0 w5 p (sendS (sendS (newS 3 2) (-1) 2 lb) 0 (-2) lc) no ∧ NWf (sendS (sendS (newS 3 2) (-1) 2 lb) 0 (-2) lc) 2) := ⟨hx, H3.out.2.send _ _ (by have := HAB.out.2.2.2.2.2; omega)⟩
  clear hx H3 H2 hn2 HOB HOC
  go_wp2_with fail
  refine (Nx.twin H5.out.1 H5.out.2 (by decide) 0).mono ?_
  rintro e w6 ⟨rfl, hx, -⟩
  have H6 : Hid (Nx IsN w0 w6 p (twinS (sendS (sendS (newS 3 2) (-1) 2 lb) 0 (-2) lc) 0) no ∧ NWf (twinS (sendS (sendS (newS 3 2) (-1) 2 lb) 0 (-2) lc) 0) 3) := ⟨hx, H5.out.2.twin _⟩
  clear hx H5
  go_wp2_with fail
  refine (Nx.twin H6.out.1 H6.out.2 (by decide) 0).mono ?_
  rintro e wA ⟨rfl, hx, -⟩
  have HA : Hid (Nx IsN w0 wA p (m4 lb lc) no ∧ NWf (m4 lb lc) 4) := ⟨hx, H6.out.2.twin 0⟩
  clear hx H6
  go_wp2_with fail
  refine (Nx.flight HA.out.1 HA.out.2 (by decide)).mono ?_
  intro e wB hfl
  obtain ⟨ox, cx, X, rfl, hx, hk⟩ := tld_of hfl
  have HB : Hid (Tld wB ox cx X frmAt lb lc wA.heap.size wB.heap.size ∧ Keeps no wA wB) := ⟨hx, hk⟩
  clear hx hk hfl
  go_wp2_with fail
  refine (Nx.flight (HA.out.1.keepsN HB.out.2) HA.out.2 (by decide)).mono ?_
  intro e wC hfl
  obtain ⟨oy, cy, Y, rfl, hx, hk⟩ := tld_of hfl
  have HC : Hid (Tld wC oy cy Y frmAt lb lc wB.heap.size wC.heap.size ∧ Keeps no wB wC) := ⟨hx, hk⟩
  clear hx hk hfl
  go_wp2_with fail
  refine (Nx.flight ((HA.out.1.keepsN HB.out.2).keepsN HC.out.2) HA.out.2 (by decide)).mono ?_
  intro e wD hfl
  obtain ⟨oz, cz, Z, rfl, hx, hk⟩ := tld_of hfl
  obtain ⟨A, hA⟩ : ∃ A, A = wA.heap.size := ⟨_, rfl⟩
  obtain ⟨B, hB⟩ : ∃ B, B = wB.heap.size := ⟨_, rfl⟩
  obtain ⟨C, hC⟩ : ∃ C, C = wC.heap.size := ⟨_, rfl⟩
  obtain ⟨D, hD⟩ : ∃ D, D = wD.heap.size := ⟨_, rfl⟩
  have HT : Hid (LSt wA wD A B C D ox cx X oy cy Y oz cz Z lb lc none 0 0 ∧ A = wA.heap.size) := by
    have h1 := HB.out.1
    have h2 := HC.out.1
    rw [← hA, ← hB] at h1
    rw [← hB, ← hC] at h2
    rw [← hC, ← hD] at hx
    have k1 := HB.out.2.size
    have k2 := HC.out.2.size
    have k3 := hk.size
    have e : ∀ v, up v 0 = frmAt := fun v => by funext j; unfold up; rw [if_neg (by omega)]
    refine ⟨⟨⟨?_, ?_, hx, by omega, by omega, by omega⟩, (show Own XE wD none 0 [] from own_nil _), (fun k hk => by obtain ⟨x, e, _⟩ := hk; cases e), (HB.out.2.trans HC.out.2).trans hk, by omega⟩, hA⟩
    · rw [e]; exact (h1.keepsN HC.out.2).keepsN hk
    · rw [e]; exact h2.keepsN hk
  clear hA hB hC hD hx hk HB HC
  go_wp2_with fail
  go_loopw [10, 11] (fun s10 s11 wr => ∃ (i : Nat) (ol : Option Addr) (cl : Nat), i ≤ 4 ∧ s10 = .slice ol ((3 * i : Nat)) cl ∧ s11 = .int .i64 i ∧ Hid (LSt wA wr A B C D ox cx X oy cy Y oz cz Z lb lc ol cl i)) (fun _ s11 _ => 4 - (intOf s11).toNat)
  case atStart => exact ⟨0, none, 0, by omega, rfl, rfl, HT.out.1⟩
  case round =>
    rename World => wr
    obtain ⟨i, ol, cl, hi, rfl, rfl, HL⟩ := hrel
    have HAA : Hid (A = wA.heap.size) := HT.out.2
    clear HT
    by_cases hlt : i < 4
    · have hlt' : (i : Int) < 4 := by omega
      obtain ⟨gx, ex, gx1, gx2, gxf⟩ := HL.out.1.x.blk
      obtain ⟨gy, ey, gy1, gy2, gyf⟩ := HL.out.1.y.blk
      obtain ⟨gz, ez, gz1, gz2, gzf⟩ := HL.out.1.z.blk
      obtain ⟨x1, x3, xb, -⟩ := HL.out.1.x.at ex hlt
      obtain ⟨y1, y3, yb, -⟩ := HL.out.1.y.at ey hlt
      obtain ⟨z1, z3, zb, -⟩ := HL.out.1.z.at ez hlt
      have HE : Hid (ox = some ⟨gx, 0, none⟩ ∧ oy = some ⟨gy, 0, none⟩ ∧ oz = some ⟨gz, 0, none⟩ ∧ gx < B ∧ B ≤ gy ∧ gy < C ∧ C ≤ gz ∧ A ≤ gx ∧ gz < D ∧ gx < gy ∧ gy < gz) := ⟨ex, ey, ez, by omega, by omega, by omega, by omega, by omega, by omega, by omega, by omega⟩
      have HOZ : Hid (Oz BE wr (X i).1 (X i).2 (bsAt lb lc i) ∧ Oz BE wr (Y i).1 (Y i).2 (bsAt lb lc i) ∧ Oz BE wr (Z i).1 (Z i).2 (bsAt lb lc i)) := ⟨xb, yb, zb⟩
      clear xb yb zb gx1 gx2 gy1 gy2 gz1 gz2 gzf
      obtain ⟨bl, hbl⟩ : ∃ bl, bl = (bsAt lb lc i).length := ⟨_, rfl⟩
      rw [← hbl] at x3 y3 z3
      have HBL : Hid (bl = (bsAt lb lc i).length) := hbl
      clear hbl
      have HKW : Hid (Keeps no w wr) := (HK0.out.trans HA.out.1.kp).trans HL.out.2.2.2.1
      have HWR : Hid (∀ wo wn wc, ((i = 1 ∧ wo = co ∧ wn = cn ∧ wc = cc) ∨ (¬ i = 1 ∧ wo = ao ∧ wn = an ∧ wc = ac)) → wn = bl ∧ Sl BE wr wo wc (bsAt lb lc i)) := by
        rintro wo wn wc (⟨e, rfl, rfl, rfl⟩ | ⟨e, rfl, rfl, rfl⟩)
        · have hb : bsAt lb lc i = lc := by unfold bsAt; rw [if_pos e]
          rw [HBL.out, hb]
          exact ⟨HAB.out.2.1, HAB.out.2.2.2.1.keepsN HKW.out⟩
        · have hb : bsAt lb lc i = lb := by unfold bsAt; rw [if_neg e]
          rw [HBL.out, hb]
          exact ⟨HAB.out.1, HAB.out.2.2.1.keepsN HKW.out⟩
      have hoX : ∃ o, o = (X i).1 := ⟨_, rfl⟩
      obtain ⟨oX, hoX⟩ := hoX
      obtain ⟨cX, hcX⟩ : ∃ c, c = (X i).2 := ⟨_, rfl⟩
      obtain ⟨oY, hoY⟩ : ∃ o, o = (Y i).1 := ⟨_, rfl⟩
      obtain ⟨cY, hcY⟩ : ∃ c, c = (Y i).2 := ⟨_, rfl⟩
      obtain ⟨oZ, hoZ⟩ : ∃ o, o = (Z i).1 := ⟨_, rfl⟩
      obtain ⟨cZ, hcZ⟩ : ∃ c, c = (Z i).2 := ⟨_, rfl⟩
      rw [← hoX, ← hcX] at x3
      rw [← hoY, ← hcY] at y3
      rw [← hoZ, ← hcZ] at z3
      have HXYZ : Hid (oX = (X i).1 ∧ cX = (X i).2 ∧ oY = (Y i).1 ∧ cY = (Y i).2 ∧ oZ = (Z i).1 ∧ cZ = (Z i).2) := ⟨hoX, hcX, hoY, hcY, hoZ, hcZ⟩
      clear hoX hcX hoY hcY hoZ hcZ
      generalize up 77 i i = vx at x1
      generalize up 78 i i = vy at y1
      subst ex ey ez
      go_upto_if 70 with fail
      go_cut [12] from 70 to 71 (fun t12 wx => (∃ wo wn wc, t12 = .slice wo wn wc ∧ Hid (wn = bl ∧ Sl BE wr wo wc (bsAt lb lc i))) ∧ wx = wr)
      case first =>
        obtain ⟨c1, hc1⟩ : ∃ c1, ((i : Int) == 1) = c1 := ⟨_, rfl⟩
        cases c1 with
        | true =>
          have HH : Hid (cn = bl ∧ Sl BE wr co cc (bsAt lb lc i)) := HWR.out co cn cc (.inl ⟨by simp at hc1; omega, rfl, rfl, rfl⟩)
          clear HWR
          go_wp2_with fail
          go_meet
          exact ⟨⟨_, _, _, rfl, HH⟩, rfl⟩
        | false =>
          have HH : Hid (an = bl ∧ Sl BE wr ao ac (bsAt lb lc i)) := HWR.out ao an ac (.inr ⟨by simp at hc1; omega, rfl, rfl, rfl⟩)
          clear HWR
          go_wp2_with fail
          go_meet
          exact ⟨⟨_, _, _, rfl, HH⟩, rfl⟩
      case rest =>
        obtain ⟨⟨wo, wn, wc', rfl, HW⟩, rfl⟩ := hcut
        clear HWR
        rename World => wy
        have HSX : Hid (Calls Try.prog 15 #[.slice oX bl cX, .slice wo wn wc'] wy fun e w' => e = .returned (.bool true) ∧ w' = wy) := by
          rw [HXYZ.out.1, HXYZ.out.2.1]
          exact same_yes wy _ _ _ _ _ _ (bsAt lb lc i) HBL.out (by rw [HW.out.1]; exact HBL.out) HOZ.out.1.row HW.out.2.row
        have HSY : Hid (Calls Try.prog 15 #[.slice oY bl cY, .slice wo wn wc'] wy fun e w' => e = .returned (.bool true) ∧ w' = wy) := by
          rw [HXYZ.out.2.2.1, HXYZ.out.2.2.2.1]
          exact same_yes wy _ _ _ _ _ _ (bsAt lb lc i) HBL.out (by rw [HW.out.1]; exact HBL.out) HOZ.out.2.1.row HW.out.2.row
        have HSZ : Hid (Calls Try.prog 15 #[.slice oZ bl cZ, .slice wo wn wc'] wy fun e w' => e = .returned (.bool true) ∧ w' = wy) := by
          rw [HXYZ.out.2.2.2.2.1, HXYZ.out.2.2.2.2.2]
          exact same_yes wy _ _ _ _ _ _ (bsAt lb lc i) HBL.out (by rw [HW.out.1]; exact HBL.out) HOZ.out.2.2.row HW.out.2.row
        go_wp2_with fail
        refine HSX.out.mono ?_
        rintro e w1x ⟨rfl, hwx⟩
        subst w1x
        go_wp2_with fail
        refine HSY.out.mono ?_
        rintro e w1x ⟨rfl, hwx⟩
        subst w1x
        go_wp2_with fail
        refine HSZ.out.mono ?_
        rintro e w1x ⟨rfl, hwx⟩
        subst w1x
        clear HSX HSY HSZ HOZ HKW
        go_upto_region 24 with fail
        go_cut [10] from 100 to 116 (fun t10 wx => ∃ ol' cl', t10 = .slice ol' ((3 * i + 3 : Nat)) cl' ∧ Hid (∃ w4, Own XE wx ol' cl' (LL X Y Z lb lc (3 * i) ++ [⟨oX, cX, bsAt lb lc i⟩, ⟨oY, cY, bsAt lb lc i⟩, ⟨oZ, cZ, bsAt lb lc i⟩]) ∧ Ap w4 ol ol' wx ∧ Keeps no wy w4))
        case first =>
          have HNX : Hid (∀ X', Keeps no wy X' → X'.cell? ⟨gx, i * 4 + 3, none⟩ = some (.slice oX bl cX) ∧ X'.cell? ⟨gy, i * 4 + 3, none⟩ = some (.slice oY bl cY) ∧ X'.cell? ⟨gz, i * 4 + 3, none⟩ = some (.slice oZ bl cZ)) := fun X' k => ⟨k.cellN x3, k.cellN y3, k.cellN z3⟩
          have HNY : Hid (∀ X', Keeps (fun j => D ≤ j) wy X' → X'.cell? ⟨gx, i * 4 + 3, none⟩ = some (.slice oX bl cX) ∧ X'.cell? ⟨gy, i * 4 + 3, none⟩ = some (.slice oY bl cY) ∧ X'.cell? ⟨gz, i * 4 + 3, none⟩ = some (.slice oZ bl cZ)) := fun X' k => ⟨k.cell x3 (by have := HE.out; show ¬ D ≤ gx; omega), k.cell y3 (by have := HE.out; show ¬ D ≤ gy; omega), k.cell z3 (by have := HE.out; show ¬ D ≤ gz; omega)⟩
          have HKN : Hid (∀ w4 o' x3, Keeps no wy w4 → Ap w4 ol o' x3 → Keeps (fun j => D ≤ j) wy x3) := by
            intro w4 o' x3 k4 hap
            rcases hap with ⟨_, k⟩ | ⟨_, k⟩
            · exact k4.of_no.trans (k.mono (fun j hj => HL.out.2.2.1 j hj))
            · exact (k4.trans k).of_no
          have HLO : Hid (Own XE wy ol cl (LL X Y Z lb lc (3 * i))) := HL.out.2.1
          have HLIT : Hid (∀ W0 : World, Row XE (W0.alloc (.cells #[.slice oX bl cX, .slice oY bl cY, .slice oZ bl cZ] 22)) (some ⟨W0.heap.size, 0, none⟩) [⟨oX, cX, bsAt lb lc i⟩, ⟨oY, cY, bsAt lb lc i⟩, ⟨oZ, cZ, bsAt lb lc i⟩]) := fun W0 => lit_row okX W0 _ #[.slice oX bl cX, .slice oY bl cY, .slice oZ bl cZ] (0, 0) (by simp [El.cells, XE, LS.enc, HBL.out])
          have HBD : Hid (3 * i = (LL X Y Z lb lc (3 * i)).length ∧ ((LL X Y Z lb lc (3 * i)).length + 3) * XE.nb ≤ 140737488355328 ∧ (LL X Y Z lb lc (3 * i)).length + 3 ≤ 140737488355328) := by rw [LL_len]; exact ⟨rfl, by simp [XE]; omega, by omega⟩
          go_region_held3 (fun X' => X'.cell? ⟨gx, i * 4 + 3, none⟩ = some (.slice oX bl cX) ∧ X'.cell? ⟨gy, i * 4 + 3, none⟩ = some (.slice oY bl cY) ∧ X'.cell? ⟨gz, i * 4 + 3, none⟩ = some (.slice oZ bl cZ)) (first | exact HNX.out _ ((Keeps.refl no wy).drew) | exact HNX.out _ (Keeps.refl no wy) | exact HNX.out _ (((Keeps.refl no wy).drew).alloc _) | exact HNX.out _ (((Keeps.refl no wy).alloc _).drew) | exact HNY.out _ K3.out) ((rw [if_pos (show Region.wanted _ _ = true from by simp [Region.wanted])]; refine oper_app1 okX rfl (.tmp 100) (.tmp 116) rfl ol (3 * i) cl (LL X Y Z lb lc (3 * i)) rfl HBD.out.1 ?_ (some ⟨wy.heap.size, 0, none⟩) 3 3 [⟨oX, cX, bsAt lb lc i⟩, ⟨oY, cY, bsAt lb lc i⟩, ⟨oZ, cZ, bsAt lb lc i⟩] rfl rfl (fun e => by cases e) ?_ HBD.out.2.1 HBD.out.2.2 ?_; (first | exact HLO.out.keepsN (((Keeps.refl no wy).drew).alloc _) | exact HLO.out.keepsN (((Keeps.refl no wy).alloc _).drew)); (first | exact HLIT.out wy.drew | exact (HLIT.out wy).keepsN ((Keeps.refl no _).drew)); intro o3 c3 x3 ho3 hap3; (first | have K3 : Hid (Keeps (fun j => D ≤ j) wy x3) := HKN.out _ _ _ (((Keeps.refl no wy).drew).alloc _) hap3 | have K3 : Hid (Keeps (fun j => D ≤ j) wy x3) := HKN.out _ _ _ (((Keeps.refl no wy).alloc _).drew) hap3); have HO3 : Hid (Own XE x3 o3 c3 (LL X Y Z lb lc (3 * i) ++ [⟨oX, cX, bsAt lb lc i⟩, ⟨oY, cY, bsAt lb lc i⟩, ⟨oZ, cZ, bsAt lb lc i⟩]) ∧ ∃ w4, Ap w4 ol o3 x3 ∧ Keeps no wy w4) := ⟨ho3, _, hap3, by first | exact (((Keeps.refl no wy).drew).alloc _) | exact (((Keeps.refl no wy).alloc _).drew)⟩; clear ho3 hap3))
          all_goals
            go_wp2_with fail
            go_meet
            exact ⟨_, _, rfl, by obtain ⟨h1, w4, h2, h3⟩ := HO3.out; exact ⟨w4, h1, h2, h3⟩⟩
        case rest =>
          obtain ⟨ol', cl', rfl, HN⟩ := hcut
          have HST : Hid (∃ w4, Own XE wc ol' cl' (LL X Y Z lb lc (3 * i) ++ [⟨(X i).1, (X i).2, bsAt lb lc i⟩, ⟨(Y i).1, (Y i).2, bsAt lb lc i⟩, ⟨(Z i).1, (Z i).2, bsAt lb lc i⟩]) ∧ Ap w4 ol ol' wc ∧ Keeps no wy w4) := by
            obtain ⟨w4, h1, h2, h3⟩ := HN.out
            rw [HXYZ.out.1, HXYZ.out.2.1, HXYZ.out.2.2.1, HXYZ.out.2.2.2.1, HXYZ.out.2.2.2.2.1, HXYZ.out.2.2.2.2.2] at h1
            exact ⟨w4, h1, h2, h3⟩
          have HCC : Hid (wc.cell? ⟨gx, i * 4 + 1, none⟩ = some (.int .i64 (up 77 i i)) ∧ wc.cell? ⟨gy, i * 4 + 1, none⟩ = some (.int .i64 (up 78 i i)) ∧ wc.frozen? ⟨gx, i * 4 + 1, none⟩ = false ∧ wc.frozen? ⟨gy, i * 4 + 1, none⟩ = false) := by
            obtain ⟨w4, h1, hap, k4⟩ := HST.out
            have kl : Keeps (fun j => D ≤ j) wy wc := by
              rcases hap with ⟨_, k⟩ | ⟨_, k⟩
              · exact k4.of_no.trans (k.mono (fun j hj => HL.out.2.2.1 j hj))
              · exact (k4.trans k).of_no
            have t3 := HL.out.1.keeps kl (fun j a b e => by omega)
            obtain ⟨gx', ex, _, _, fx⟩ := t3.x.blk
            obtain ⟨gy', ey, _, _, fy⟩ := t3.y.blk
            cases ex
            cases ey
            exact ⟨(t3.x.at rfl hlt).1, (t3.y.at rfl hlt).1, fx _, fy _⟩
          have hne : ¬ gx = gy := by have := HE.out; omega
          have hne' : ¬ gy = gx := by have := HE.out; omega
          clear x1 x3 y1 y3 z1 z3 gxf gyf HXYZ HN HBL HW
          have x1 := HCC.out.1
          have y1 := HCC.out.2.1
          have fx := HCC.out.2.2.1
          have fy := HCC.out.2.2.2
          generalize up 77 i i = vx at x1
          generalize up 78 i i = vy at y1
          have HLN : Hid (LSt wA ((wc.setCell ⟨gx, i * 4 + 1, none⟩ (.int .i64 77)).setCell ⟨gy, i * 4 + 1, none⟩ (.int .i64 78)) A B C D (some ⟨gx, 0, none⟩) cx X (some ⟨gy, 0, none⟩) cy Y (some ⟨gz, 0, none⟩) cz Z lb lc ol' cl' (i + 1)) := by
            obtain ⟨w4, h1, hap, k4⟩ := HST.out
            exact HL.out.same hlt HAA.out h1 hap k4 rfl rfl rfl
          clear HST HCC
          go_wp2_with fail
          go_roundw
          case rel => exact ⟨i + 1, ol', cl', by omega, by first | rfl | (congr 1; omega), by go_num, HLN⟩
          case measure => simp [intOf]; omega
    · have hi4 : i = 4 := by omega
      subst i
      clear hlt hi
      have HL4 : Hid (Thr wr A B C D ox cx X (up 77 4) oy cy Y (up 78 4) oz cz Z lb lc ∧ Own XE wr ol cl (LL X Y Z lb lc 12) ∧ (∀ k, inO ol k → D ≤ k) ∧ Keeps no wA wr ∧ D ≤ wr.heap.size) := HL.out
      have HNX : Hid (Nx IsN w0 wr p (m4 lb lc) (fun j => A ≤ j ∧ j < wr.heap.size)) := (HA.out.1.mark HL4.out.2.2.2.1).fewer (fun j hj => .inr (by rw [← HAA.out]; exact hj))
      have HA0 : Hid (w0.heap.size ≤ A) := by rw [HAA.out]; exact HA.out.1.kp.size
      clear HL
      go_wp2_with fail
      refine (Nx.del HNX.out HA.out.2 (by decide) 2).mono ?_
      rintro e we ⟨r, rfl, hr, hx, hk, hz⟩
      have e1 : errS (m4 lb lc) 2 = 0 := rfl
      have e2 : delF (m4 lb lc) 2 = ⟨3, -1, 2, lb⟩ := rfl
      rw [e2] at hr
      rw [e1]
      obtain ⟨r0, r1, r2, fo, fn, fc⟩ := r
      obtain ⟨q0, q1, q2, q3, q4⟩ := hr
      simp only at q0 q1 q2 q3 q4 hz hx
      subst q0 q1 q2
      unfold aggF
      simp only
      have e3 : ((3 : Nat) : Int) = 3 := rfl
      rw [e3]
      obtain ⟨M5, hM5⟩ : ∃ M5 : Nat → Prop, M5 = fun j => (A ≤ j ∧ j < wr.heap.size) ∨ zO fo fc j := ⟨_, rfl⟩
      rw [← hM5] at hx
      have HM5 : Hid ((∀ j, A ≤ j → j < wr.heap.size → M5 j) ∧ (∀ j, zO fo fc j → M5 j) ∧ (∀ j, M5 j → w0.heap.size ≤ j) ∧ ∀ j, zO fo fc j → ¬ (A ≤ j ∧ j < D)) := by
        subst hM5
        refine ⟨fun j a b => .inl ⟨a, b⟩, fun j a => .inr a, fun j hj => ?_, fun j hj e => (hz j hj).2 ⟨e.1, by have := HL4.out.2.2.2.2; omega⟩⟩
        rcases hj with hj | hj
        · have := HA0.out; omega
        · exact (hz j hj).1
      have HE5 : Hid (Nx IsN w0 we p (m5 lb lc) M5 ∧ Thr we A B C D ox cx X (up 77 4) oy cy Y (up 78 4) oz cz Z lb lc ∧ Own XE we ol cl (LL X Y Z lb lc 12) ∧ Oz BE we fo fc lb ∧ fn = lb.length ∧ ∀ j, inO ol j → D ≤ j ∧ M5 j) := by
        have hcd := HL4.out.1
        have h1 := hcd.ab
        have h2 := hcd.bc
        have h3 := hcd.cd
        have h4 := HL4.out.2.2.2.2
        refine ⟨hx, hcd.keeps hk (fun j a b e => e ⟨a, by omega⟩), HL4.out.2.1.keeps hk (fun j a e => e ⟨by have := HL4.out.2.2.1 j a; omega, HL4.out.2.1.lt j a⟩), q4, q3, fun j a => ⟨HL4.out.2.2.1 j a, HM5.out.1 j (by have := HL4.out.2.2.1 j a; omega) (HL4.out.2.1.lt j a)⟩⟩
      have HDM : Hid (∀ j, A ≤ j → j < D → M5 j) := fun j a b => HM5.out.1 j a (by have := HL4.out.2.2.2.2; omega)
      have HW5 : Hid (NWf (m5 lb lc) 4) := HA.out.2.del 2
      clear hx hk hz q3 q4 hM5
      go_upto_region 28 with fail
      obtain ⟨B8, hB8⟩ : ∃ B8, B8 = we.heap.size := ⟨_, rfl⟩
      have hwd : (we.alloc (.cells #[.int .i64 3, .int .i64 (-1), .int .i64 2, .slice fo fn fc] 33)).heap[B8]? = some (.cells #[.int .i64 3, .int .i64 (-1), .int .i64 2, .slice fo fn fc] 33 (0, 0)) ∧ Keeps no we (we.alloc (.cells #[.int .i64 3, .int .i64 (-1), .int .i64 2, .slice fo fn fc] 33)) := ⟨by rw [hB8]; exact blk_new we _, (Keeps.refl _ _).alloc _⟩
      rw [← hB8]
      generalize we.alloc (.cells #[.int .i64 3, .int .i64 (-1), .int .i64 2, .slice fo fn fc] 33) = wf at hwd ⊢
      have HF : Hid (Nx IsN w0 wf p (m5 lb lc) M5 ∧ Thr wf A B C D ox cx X (up 77 4) oy cy Y (up 78 4) oz cz Z lb lc ∧ Own XE wf ol cl (LL X Y Z lb lc 12) ∧ Oz BE wf fo fc lb) := ⟨HE5.out.1.keepsN hwd.2, HE5.out.2.1.keepsN hwd.2, HE5.out.2.2.1.keepsN hwd.2, HE5.out.2.2.2.1.keepsN hwd.2⟩
      have HFB : Hid (fn = lb.length ∧ ∀ j, inO ol j → D ≤ j ∧ M5 j) := HE5.out.2.2.2.2
      have d0 := cell_of_blk hwd.1 0
      have d3 := cell_of_blk hwd.1 3
      simp only [List.getElem?_toArray, List.getElem?_cons_succ, List.getElem?_cons_zero] at d0 d3
      have hBl : B8 < wf.heap.size := lt_of_block hwd.1
      have HSF : Hid (Calls Try.prog 15 #[.slice fo fn fc, .slice ao an ac] wf fun e w' => e = .returned (.bool true) ∧ w' = wf) := same_yes wf _ _ _ _ _ _ lb HFB.out.1 HAB.out.1 HF.out.2.2.2.row (HAB.out.2.2.1.keepsN (HK0.out.trans HF.out.1.kp)).row
      have HLR : Hid (Row XE (wf.alloc (.cells #[.slice fo fn fc] 22)) (some ⟨wf.heap.size, 0, none⟩) [⟨fo, fc, lb⟩]) := lit_row okX wf [⟨fo, fc, lb⟩] #[.slice fo fn fc] (0, 0) (by simp [El.cells, XE, LS.enc, HFB.out.1])
      have HOA : Hid (Own XE (wf.alloc (.cells #[.slice fo fn fc] 22)) ol cl (LL X Y Z lb lc 12)) := HF.out.2.2.1.keepsN ((Keeps.refl _ _).alloc _)
      have HBD : Hid (12 = (LL X Y Z lb lc 12).length ∧ ((LL X Y Z lb lc 12).length + [(⟨fo, fc, lb⟩ : LS UInt8)].length) * XE.nb ≤ 140737488355328 ∧ (LL X Y Z lb lc 12).length + [(⟨fo, fc, lb⟩ : LS UInt8)].length ≤ 140737488355328) := by rw [LL_len]; exact ⟨rfl, by simp [XE], by simp⟩
      clear hwd hB8 HE5 HL4 HNX
      go_wp2_with fail
      refine HSF.out.mono ?_
      rintro e w1x ⟨rfl, hwx⟩
      subst w1x
      clear HSF
      go_wp2_with (at_builtin; go_must (refine wpList_app okX rfl _ _ rfl ol _ cl (LL X Y Z lb lc 12) rfl HBD.out.1 HOA.out (some ⟨wf.heap.size, 0, none⟩) 1 1 [⟨fo, fc, lb⟩] rfl rfl (fun e => by cases e) HLR.out HBD.out.2.1 HBD.out.2.2 ?_); intro o4 c4 w4 hown4 hap4)
      have HG : Hid (Nx IsN w0 w4 p (m5 lb lc) M5 ∧ Thr w4 A B C D ox cx X (up 77 4) oy cy Y (up 78 4) oz cz Z lb lc ∧ Own XE w4 o4 c4 (LL X Y Z lb lc 12 ++ [⟨fo, fc, lb⟩]) ∧ Oz BE w4 fo fc lb) := by
        have kl : Keeps (inO ol) wf w4 := by
          rcases hap4 with ⟨_, k⟩ | ⟨_, k⟩
          · exact (((Keeps.refl (inO ol) wf).alloc _)).trans k
          · exact ((((Keeps.refl no wf).alloc _)).trans k).of_no
        exact ⟨HF.out.1.over (kl.mono (fun j hj => (HFB.out.2 j hj).2)) HM5.out.2.2.1, HF.out.2.1.keeps kl (fun j a b e => by have := (HFB.out.2 j e).1; omega), hown4, HF.out.2.2.2.keeps kl (ne_tag HF.out.2.2.2 HF.out.2.2.1)⟩
      have HMK : Hid (Mks w4 o4 (LL X Y Z lb lc 12 ++ [⟨fo, fc, lb⟩])) := HG.out.2.1.mks HG.out.2.2.1 HG.out.2.2.2 HM5.out.2.2.2 HAB.out.2.2.2.2.1 HAB.out.2.2.2.2.2
      clear hown4 hap4 HLR HOA HBD HF HFB d0 d3 hBl
      refine (marks_any w4 o4 c4 _ (LL X Y Z lb lc 12 ++ [⟨fo, fc, lb⟩]) (by rw [List.length_append, LL_len]; rfl) HMK.out).mono ?_
      rintro e wm ⟨rfl, hkm⟩
      obtain ⟨gx, ex, -⟩ := HG.out.2.1.x.blk
      obtain ⟨gy, ey, -⟩ := HG.out.2.1.y.blk
      obtain ⟨gz, ez, -⟩ := HG.out.2.1.z.blk
      have HM : Hid (Nx IsN w0 wm p (m5 lb lc) no ∧ Frm wm ox (up 77 4) ∧ Frm wm oy (up 78 4) ∧ Frm wm oz frmAt) := by
        have fx := HG.out.2.1.x.frm
        have fy := HG.out.2.1.y.frm
        have fz := HG.out.2.1.z.frm
        refine ⟨(HG.out.1.over (hkm.mono (fun j hj => ?_)) HM5.out.2.2.1).fewer (fun j hj => hj.elim), fx.keeps hkm (fx.blk HMK.out), fy.keeps hkm (fy.blk HMK.out), fz.keeps hkm (fz.blk HMK.out)⟩
        rcases HG.out.2.1.turned hj with ⟨a, b⟩ | h
        · exact HDM.out j a b
        · exact HM5.out.2.1 j h
      clear hkm HMK HG HM5 HDM
      subst ex ey ez
      go_wp2_with fail
      go_loopw [15] (fun s15 wu => ∃ i : Nat, i ≤ 4 ∧ s15 = .int .i64 i ∧ wu = wm) (fun s15 _ => 4 - (intOf s15).toNat)
      case atStart => exact ⟨0, by omega, rfl, rfl⟩
      case round =>
        obtain ⟨i, hi, rfl, e⟩ := hrel
        rename World => wu
        subst wu
        by_cases hlt : i < 4
        · have hlt' : (i : Int) < 4 := by omega
          have x1 := HM.out.2.1.at rfl hlt
          have y1 := HM.out.2.2.1.at rfl hlt
          have z1 := HM.out.2.2.2.at rfl hlt
          have ux : up 77 4 i = 77 := by unfold up; rw [if_pos hlt]
          have uy : up 78 4 i = 78 := by unfold up; rw [if_pos hlt]
          have uz : ¬ frmAt i = 77 ∧ ¬ frmAt i = 78 := by unfold frmAt; split <;> decide
          rw [ux] at x1
          rw [uy] at y1
          generalize frmAt i = vz at z1 uz
          obtain ⟨uz1, uz2⟩ := uz
          have uzb1 : (vz == 77) = false := by simpa using uz1
          have uzb2 : (vz == 78) = false := by simpa using uz2
          clear ux uy
          go_wp2_with fail
          go_roundw
          case rel => exact ⟨i + 1, by omega, by go_num, by trivial⟩
          case measure => simp [intOf]; omega
        · have hi4 : i = 4 := by omega
          subst i
          clear hlt hi
          have HN : Hid (Nx IsN w0 wm p (m5 lb lc) no) := HM.out.1
          clear HM
          go_wp2_with fail
          refine (Nx.del HN.out HW5.out (by decide) 2).mono ?_
          rintro e wa ⟨r, rfl, hr, hx, -, hz⟩
          have e1 : errS (m5 lb lc) 2 = 0 := rfl
          have e2 : delF (m5 lb lc) 2 = ⟨4, -1, 2, lb⟩ := rfl
          have e5 : delS (m5 lb lc) 2 = m6 lb lc := rfl
          rw [e2] at hr
          rw [e5] at hx
          rw [e1]
          obtain ⟨r0, r1, r2, qo, qn, qc⟩ := r
          obtain ⟨q0, q1, q2, q3, q4⟩ := hr
          simp only at q0 q1 q2 q3 q4 hz hx
          subst q0 q1 q2
          unfold aggF
          simp only
          have e3 : ((4 : Nat) : Int) = 4 := rfl
          rw [e3]
          have HT6 : Hid (Nx IsN w0 wa p (m6 lb lc) (fun j => zO qo qc j) ∧ NWf (m6 lb lc) 4 ∧ Oz BE wa qo qc lb ∧ qn = lb.length ∧ ∀ j, zO qo qc j → w0.heap.size ≤ j) := ⟨hx.fewer (fun j h => .inr h), HW5.out.del 2, q4, q3, fun j h => (hz j h).1⟩
          clear hx hz q3 q4 HN HW5
          go_upto_region 39 with fail
          obtain ⟨B16, hB16⟩ : ∃ B16, B16 = wa.heap.size := ⟨_, rfl⟩
          have hwd : (wa.alloc (.cells #[.int .i64 4, .int .i64 (-1), .int .i64 2, .slice qo qn qc] 33)).heap[B16]? = some (.cells #[.int .i64 4, .int .i64 (-1), .int .i64 2, .slice qo qn qc] 33 (0, 0)) ∧ Keeps no wa (wa.alloc (.cells #[.int .i64 4, .int .i64 (-1), .int .i64 2, .slice qo qn qc] 33)) := ⟨by rw [hB16]; exact blk_new wa _, (Keeps.refl _ _).alloc _⟩
          rw [← hB16]
          generalize wa.alloc (.cells #[.int .i64 4, .int .i64 (-1), .int .i64 2, .slice qo qn qc] 33) = wb at hwd ⊢
          have HT7 : Hid (Nx IsN w0 wb p (m6 lb lc) (fun j => zO qo qc j ∨ j = B16) ∧ wb.heap[B16]? = some (.cells #[.int .i64 4, .int .i64 (-1), .int .i64 2, .slice qo qn qc] 33 (0, 0)) ∧ Oz BE wb qo qc lb ∧ w0.heap.size ≤ B16) := ⟨(HT6.out.1.mark hwd.2).fewer (fun j h => h.imp (fun h => h) (fun h => by subst h; exact ⟨by omega, lt_of_block hwd.1⟩)), hwd.1, HT6.out.2.2.1.keepsN hwd.2, by rw [hB16]; exact HT6.out.1.kp.size⟩
          clear hwd hB16
          go_wp2_with fail
          refine (Nx.del HT7.out.1 HT6.out.2.1 (by decide) 0).mono ?_
          rintro e wc2 ⟨r, rfl, hr, hx, hk, hz⟩
          have e1 : errS (m6 lb lc) 0 = 0 := rfl
          have e2 : delF (m6 lb lc) 0 = ⟨1, -1, 2, lb⟩ := rfl
          have e5 : delS (m6 lb lc) 0 = m7 lc := rfl
          rw [e2] at hr
          rw [e5] at hx
          rw [e1]
          obtain ⟨r0, r1, r2, so, sn, sc⟩ := r
          obtain ⟨q0, q1, q2, q3, q4⟩ := hr
          simp only at q0 q1 q2 q3 q4 hz hx
          subst q0 q1 q2
          unfold aggF
          simp only
          have e3 : ((1 : Nat) : Int) = 1 := rfl
          rw [e3]
          have HS6 : Hid (Nx IsN w0 wc2 p (m7 lc) (fun j => (zO qo qc j ∨ j = B16) ∨ zO so sc j) ∧ NWf (m7 lc) 4 ∧ Oz BE wc2 qo qc lb ∧ Oz BE wc2 so sc lb ∧ sn = lb.length ∧ (∀ j, zO so sc j → w0.heap.size ≤ j ∧ ¬ zO qo qc j) ∧ wc2.heap[B16]? = some (.cells #[.int .i64 4, .int .i64 (-1), .int .i64 2, .slice qo qn qc] 33 (0, 0))) :=
            ⟨hx, HT6.out.2.1.del 0, HT7.out.2.2.1.keeps hk (fun j h e => e (.inl h)), q4, q3, fun j h => ⟨(hz j h).1, fun h2 => (hz j h).2 (.inl h2)⟩, hk.at HT7.out.2.1 (fun e => e (.inr rfl))⟩
          clear hx hk hz q3 q4
          go_upto_region 40 with fail
          obtain ⟨B18, hB18⟩ : ∃ B18, B18 = wc2.heap.size := ⟨_, rfl⟩
          have hwd : (wc2.alloc (.cells #[.int .i64 1, .int .i64 (-1), .int .i64 2, .slice so sn sc] 33)).heap[B18]? = some (.cells #[.int .i64 1, .int .i64 (-1), .int .i64 2, .slice so sn sc] 33 (0, 0)) ∧ Keeps no wc2 (wc2.alloc (.cells #[.int .i64 1, .int .i64 (-1), .int .i64 2, .slice so sn sc] 33)) := ⟨by rw [hB18]; exact blk_new wc2 _, (Keeps.refl _ _).alloc _⟩
          rw [← hB18]
          generalize wc2.alloc (.cells #[.int .i64 1, .int .i64 (-1), .int .i64 2, .slice so sn sc] 33) = wd at hwd ⊢
          have HD7 : Hid (Nx IsN w0 wd p (m7 lc) (fun j => (zO qo qc j ∨ j = B16) ∨ zO so sc j) ∧ Oz BE wd qo qc lb ∧ Oz BE wd so sc lb ∧ wd.heap[B16]? = some (.cells #[.int .i64 4, .int .i64 (-1), .int .i64 2, .slice qo qn qc] 33 (0, 0)) ∧ wd.heap[B18]? = some (.cells #[.int .i64 1, .int .i64 (-1), .int .i64 2, .slice so sn sc] 33 (0, 0))) := ⟨HS6.out.1.keepsN hwd.2, HS6.out.2.2.1.keepsN hwd.2, HS6.out.2.2.2.1.keepsN hwd.2, hwd.2.at HS6.out.2.2.2.2.2.2 (fun h => h), hwd.1⟩
          have HDD : Hid (NWf (m7 lc) 4 ∧ qn = lb.length ∧ sn = lb.length ∧ (∀ j, zO so sc j → w0.heap.size ≤ j ∧ ¬ zO qo qc j) ∧ ∀ j, zO qo qc j → w0.heap.size ≤ j) := ⟨HS6.out.2.1, HT6.out.2.2.2.1, HS6.out.2.2.2.2.1, HS6.out.2.2.2.2.2.1, HT6.out.2.2.2.2⟩
          clear hwd hB18 HT6 HT7 HS6
          go_wp2_with fail
          refine (Nx.flight HD7.out.1 HDD.out.1 (by decide)).mono ?_
          intro e wu hfl
          obtain ⟨uo, uc, X0, rfl, hu, hk, hnw⟩ := one_of hfl
          obtain ⟨gu, eu, u3, uz, ug⟩ := hu.at
          have HUG : Hid (∃ cur, wu.heap[gu]? = some (.cells cur 33 (0, 0))) := ug
          have HW7 : Hid (NWf (m7 lc) 4) := HDD.out.1
          clear ug
          have HU : Hid (Nx IsN w0 wu p (m7 lc) (fun j => ((zO qo qc j ∨ j = B16) ∨ zO so sc j) ∨ zO X0.1 X0.2 j) ∧ Oz BE wu qo qc lb ∧ Oz BE wu so sc lb ∧ Oz BE wu X0.1 X0.2 lc ∧ (∀ j, zO X0.1 X0.2 j → w0.heap.size ≤ j ∧ ¬ zO qo qc j ∧ ¬ zO so sc j) ∧ wu.heap[B16]? = some (.cells #[.int .i64 4, .int .i64 (-1), .int .i64 2, .slice qo qn qc] 33 (0, 0)) ∧ wu.heap[B18]? = some (.cells #[.int .i64 1, .int .i64 (-1), .int .i64 2, .slice so sn sc] 33 (0, 0)) ∧ ∀ j, ((zO qo qc j ∨ j = B16) ∨ zO so sc j) ∨ zO X0.1 X0.2 j → j = B16 ∨ w0.heap.size ≤ j) := by
            have hsz := HD7.out.1.kp.size
            have hn : ∀ j, zO X0.1 X0.2 j → wd.heap.size ≤ j := hnw
            refine ⟨(HD7.out.1.mark hk).fewer (fun j h => h.imp (fun h => h) (fun h => ⟨hn j h, uz.lt j h⟩)), HD7.out.2.1.keepsN hk, HD7.out.2.2.1.keepsN hk, uz, fun j h => ⟨by have := hn j h; omega, fun h2 => by have := hn j h; have := HD7.out.2.1.lt j h2; omega, fun h2 => by have := hn j h; have := HD7.out.2.2.1.lt j h2; omega⟩, hk.at HD7.out.2.2.2.1 (fun h => h), hk.at HD7.out.2.2.2.2 (fun h => h), fun j h => ?_⟩
            rcases h with ((h | h) | h) | h
            · exact .inr (HDD.out.2.2.2.2 j h)
            · exact .inl h
            · exact .inr (HDD.out.2.2.2.1 j h).1
            · exact .inr (by have := hn j h; omega)
          have HSW : Hid (Keeps no w wu) := HK0.out.trans HU.out.1.kp
          have d0 := cell_of_blk HU.out.2.2.2.2.2.1 0
          have d3 := cell_of_blk HU.out.2.2.2.2.2.1 3
          have f3 := cell_of_blk HU.out.2.2.2.2.2.2.1 3
          simp only [List.getElem?_toArray, List.getElem?_cons_succ, List.getElem?_cons_zero] at d0 d3 f3
          obtain ⟨bl, hbl⟩ : ∃ bl, bl = lc.length := ⟨_, rfl⟩
          rw [← hbl] at u3
          have HBL : Hid (bl = lc.length) := hbl
          have hcnb : cn = bl := by rw [hbl]; exact HAB.out.2.1
          have htn : qn = an := by rw [HDD.out.2.1]; exact HAB.out.1.symm
          have hsn : sn = an := by rw [HDD.out.2.2.1]; exact HAB.out.1.symm
          have HST : Hid (Calls Try.prog 15 #[.slice qo qn qc, .slice ao an ac] wu fun e w' => e = .returned (.bool true) ∧ w' = wu) := same_yes wu _ _ _ _ _ _ lb HDD.out.2.1 HAB.out.1 HU.out.2.1.row (HAB.out.2.2.1.keepsN HSW.out).row
          have HSS : Hid (Calls Try.prog 15 #[.slice so sn sc, .slice ao an ac] wu fun e w' => e = .returned (.bool true) ∧ w' = wu) := same_yes wu _ _ _ _ _ _ lb HDD.out.2.2.1 HAB.out.1 HU.out.2.2.1.row (HAB.out.2.2.1.keepsN HSW.out).row
          have HSU : Hid (Calls Try.prog 15 #[.slice X0.1 bl X0.2, .slice co cn cc] wu fun e w' => e = .returned (.bool true) ∧ w' = wu) := same_yes wu _ _ _ _ _ _ lc HBL.out HAB.out.2.1 HU.out.2.2.2.1.row (HAB.out.2.2.2.1.keepsN HSW.out).row
          obtain ⟨xo, xc⟩ := X0
          simp only at u3 HU HSU
          subst eu
          clear hcnb htn hsn hbl hfl hu hk hnw uz HD7
          go_wp2_with fail
          refine HST.out.mono ?_
          rintro e w1x ⟨rfl, hwx⟩
          subst w1x
          go_wp2_with fail
          refine HSS.out.mono ?_
          rintro e w1x ⟨rfl, hwx⟩
          subst w1x
          go_wp2_with fail
          refine HSU.out.mono ?_
          rintro e w1x ⟨rfl, hwx⟩
          subst w1x
          clear HST HSS HSU
          have HMA : Hid (∀ W0, Keeps no wu W0 → W0.heap.size = wu.heap.size → ∀ W1, W1 = W0.alloc (.cells #[.slice qo qn qc, .slice so sn sc, .slice xo bl xc] 22) → Calls Try.prog 17 #[.slice (some ⟨wu.heap.size, 0, none⟩) 3 3] W1 fun e w' => e = .returned (.bool true) ∧ (w'.cell? ⟨B16, 3, none⟩ = some (.slice qo qn qc) ∧ w'.cell? ⟨B18, 3, none⟩ = some (.slice so sn sc) ∧ w'.cell? ⟨gu, 3, none⟩ = some (.slice xo bl xc)) ∧ Nx IsN w0 w' p (m7 lc) no) := by
            rintro W0 k0 hsz W1 rfl
            have k1 : Keeps no wu (W0.alloc (.cells #[.slice qo qn qc, .slice so sn sc, .slice xo bl xc] 22)) := k0.alloc _
            obtain ⟨u1, u2, u3', u4', u5, u6, u7, u8⟩ := HU.out
            have m : Mks (W0.alloc (.cells #[.slice qo qn qc, .slice so sn sc, .slice xo bl xc] 22)) (some ⟨wu.heap.size, 0, none⟩) [⟨qo, qc, lb⟩, ⟨so, sc, lb⟩, ⟨xo, xc, lc⟩] := by
              rw [← hsz]
              refine ⟨lit_row okX W0 _ #[.slice qo qn qc, .slice so sn sc, .slice xo bl xc] (0, 0) (by simp [El.cells, XE, LS.enc, HDD.out.2.1, HDD.out.2.2.1, HBL.out]), by simp, fun i hi => ?_, fun i hi => ?_, fun i j hi hj hij k => ?_, fun k hk => ?_⟩
              · have h3 : i = 0 ∨ i = 1 ∨ i = 2 := by simp at hi; omega
                rcases h3 with rfl | rfl | rfl
                · exact u2.keepsN k1
                · exact u3'.keepsN k1
                · exact u4'.keepsN k1
              · have h3 : i = 0 ∨ i = 1 ∨ i = 2 := by simp at hi; omega
                rcases h3 with rfl | rfl | rfl
                · exact HAB.out.2.2.2.2.1
                · exact HAB.out.2.2.2.2.1
                · exact HAB.out.2.2.2.2.2
              · have h3 : i = 0 ∨ i = 1 ∨ i = 2 := by simp at hi; omega
                have h4 : j = 0 ∨ j = 1 ∨ j = 2 := by simp at hj; omega
                rcases h3 with rfl | rfl | rfl <;> rcases h4 with rfl | rfl | rfl
                · exact absurd rfl hij
                · exact fun a b => (HDD.out.2.2.2.1 k b).2 a
                · exact fun a b => (u5 k b).2.1 a
                · exact fun a b => (HDD.out.2.2.2.1 k a).2 b
                · exact absurd rfl hij
                · exact fun a b => (u5 k b).2.2 a
                · exact fun a b => (u5 k a).2.1 b
                · exact fun a b => (u5 k a).2.2 b
                · exact absurd rfl hij
              · obtain ⟨x, e, rfl⟩ := hk
                cases e
                exact ⟨_, _, blk_new W0 _⟩
            have hbk : ∀ i, Blk [⟨qo, qc, lb⟩, ⟨so, sc, lb⟩, ⟨xo, xc, lc⟩] i → (zO qo qc i ∨ zO so sc i) ∨ zO xo xc i := by
              rintro i ⟨k, hk, hz⟩
              have h3 : k = 0 ∨ k = 1 ∨ k = 2 := by simp at hk; omega
              rcases h3 with rfl | rfl | rfl
              · exact .inl (.inl hz)
              · exact .inl (.inr hz)
              · exact .inr hz
            have htg : ∀ (g : Nat) (cur : Array Value), wu.heap[g]? = some (.cells cur 33 (0, 0)) → ¬ Blk [⟨qo, qc, lb⟩, ⟨so, sc, lb⟩, ⟨xo, xc, lc⟩] g := by
              intro g cur hg hb
              have key : ∀ {o c xs}, Oz BE wu o c xs → ¬ zO o c g := by
                intro o c xs h hz
                obtain ⟨ca, ha⟩ := h.tag g hz
                rw [hg] at ha
                injection ha with ha
                injection ha with _ ha _
                exact absurd ha (by decide)
              rcases hbk g hb with (h | h) | h
              · exact key u2 h
              · exact key u3' h
              · exact key u4' h
            refine (marks_any _ _ 3 3 _ rfl m).mono ?_
            rintro e w' ⟨rfl, hk⟩
            obtain ⟨cur, hcur⟩ := HUG.out
            refine ⟨rfl, ⟨?_, ?_, ?_⟩, ((((u1.fewer (N := fun j => (zO qo qc j ∨ zO so sc j) ∨ zO xo xc j) (fun j h => h.imp (fun h => h.imp (fun h => .inl h) (fun h => h)) (fun h => h))).keepsN k1).over (hk.mono hbk) (fun j h => ?_))).fewer (fun j h => h.elim)⟩
            · rw [cell_of_blk (hk.at (k1.at u6 (fun h => h)) (htg _ _ u6))]; rfl
            · rw [cell_of_blk (hk.at (k1.at u7 (fun h => h)) (htg _ _ u7))]; rfl
            · exact hk.cell (k1.cellN u3) (htg _ _ hcur)
            · rcases h with (h | h) | h
              · exact HDD.out.2.2.2.2 j h
              · exact (HDD.out.2.2.2.1 j h).1
              · exact (u5 j h).1
          have HL3 : Hid (∀ X', Keeps no wu X' → X'.cell? ⟨B16, 3, none⟩ = some (.slice qo qn qc) ∧ X'.cell? ⟨B18, 3, none⟩ = some (.slice so sn sc) ∧ X'.cell? ⟨gu, 3, none⟩ = some (.slice xo bl xc)) := fun X' k => ⟨k.cellN d3, k.cellN f3, k.cellN u3⟩
          clear HU HUG HDD HSW
          go_upto_region 43 with fail
          go_cut [248] from 238 to 247 (fun t248 wx => t248 = .bool false ∧ Hid (Nx IsN w0 wx p (m7 lc) no))
          case first =>
            go_region_held3 (fun X' => X'.cell? ⟨B16, 3, none⟩ = some (.slice qo qn qc) ∧ X'.cell? ⟨B18, 3, none⟩ = some (.slice so sn sc) ∧ X'.cell? ⟨gu, 3, none⟩ = some (.slice xo bl xc)) (first | exact HL3.out _ ((Keeps.refl no wu).drew) | exact HL3.out _ (Keeps.refl no wu) | exact HL3.out _ (((Keeps.refl no wu).drew).alloc _) | exact HL3.out _ (((Keeps.refl no wu).alloc _).drew) | exact KM.out.1) ((go_at_call 17; refine (HMA.out wu.drew ((Keeps.refl no wu).drew) rfl _ rfl).mono ?_; rintro e wm2 ⟨rfl, hs, hn⟩; have KM : Hid ((wm2.cell? ⟨B16, 3, none⟩ = some (.slice qo qn qc) ∧ wm2.cell? ⟨B18, 3, none⟩ = some (.slice so sn sc) ∧ wm2.cell? ⟨gu, 3, none⟩ = some (.slice xo bl xc)) ∧ Nx IsN w0 wm2 p (m7 lc) no) := ⟨hs, hn⟩; clear hs hn))
            all_goals
              go_wp2_with fail
              go_meet
              exact ⟨rfl, KM.out.2⟩
          case rest =>
            obtain ⟨rfl, HZ⟩ := hcut
            clear HMA HL3 d0 d3 f3 u3
            go_wp2_with fail
            refine (Nx.flight HZ.out HW7.out (by decide)).mono ?_
            intro e wv hfl
            obtain ⟨vo, vc, X1, rfl, hu, hk, hnw⟩ := one_of hfl
            obtain ⟨gv, ev, v3, vz, -⟩ := hu.at
            obtain ⟨yo, yc⟩ := X1
            simp only at v3 vz
            rw [← HBL.out] at v3
            have HKV : Hid (Keeps no w wv) := HK0.out.trans (HZ.out.kp.trans hk)
            have HSV : Hid (Calls Try.prog 15 #[.slice yo bl yc, .slice co cn cc] wv fun e w' => e = .returned (.bool true) ∧ w' = wv) := same_yes wv _ _ _ _ _ _ lc HBL.out HAB.out.2.1 vz.row (HAB.out.2.2.2.1.keepsN HKV.out).row
            subst ev
            clear hu hk hnw vz hfl HZ
            go_wp2_with fail
            refine HSV.out.mono ?_
            rintro e w1x ⟨rfl, hwx⟩
            subst w1x
            clear HSV
            go_wp2_with fail
            go_ret
            exact ⟨rfl, HKV.out⟩
end Go.Proofs.Ytdbejihkliafiaa

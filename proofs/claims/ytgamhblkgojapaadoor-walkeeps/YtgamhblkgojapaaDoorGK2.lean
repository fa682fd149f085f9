/- WalKeeps: the list of what was told; right. -/
import Derived.Test.YtgamhblkgojapaaDoorGK1
import Derived.Test.YtgamhblkgojapaaDoorGV
namespace Go.Proofs.YtgamhblkgojapaaDoor
open Go.RowKit Pk Dk
set_option linter.unusedVariables false
set_option linter.unusedSimpArgs false

abbrev KV := CV × Bool
abbrev KR := Rec × Bool
def kv0 : KV := (cv0, false)
def kr0 : KR := (c0, false)
def KE : El KV := ⟨59, 55, 5, 72, fun v => [.int .i64 v.1.k, .int .u64 (v.1.i : Nat), .slice v.1.op v.1.np v.1.cp, .slice v.1.ok v.1.nk v.1.ck, .bool v.2]⟩
theorem infoK : (Tryd.prog.info? 59).map (fun i => (i.zero, i.size, i.bytes)) = some (some (.agg #[.int .i64 0, .int .u64 0, .slice none 0 0, .slice none 0 0, .bool false]), 5, 72) := by kernel_rfl
theorem okK : KE.Ok := by
  obtain ⟨i0, hi, hz0, hz1, hz2⟩ := info_parts infoK
  exact ⟨fun _ => rfl, fun x u hu => by simp [KE] at hu; rcases hu with rfl | rfl | rfl | rfl | rfl <;> rfl, by decide, Tryd.underlying55, i0, _, hi, hz0, hz1, hz2, rfl⟩
theorem Sl.atK {w : World} {a : Option Addr} {c : Nat} {xs : List KV} (h : Sl KE w a c xs) {j : Nat} (hj : j < xs.length) : ∃ b off, a = some ⟨b, off, none⟩ ∧ w.cell? ⟨b, off + j * 5, none⟩ = some (.int .i64 (xs.getD j kv0).1.k) ∧ w.cell? ⟨b, off + j * 5 + 1, none⟩ = some (.int .u64 ((xs.getD j kv0).1.i : Nat)) ∧ w.cell? ⟨b, off + j * 5 + 2, none⟩ = some (.slice (xs.getD j kv0).1.op (xs.getD j kv0).1.np (xs.getD j kv0).1.cp) ∧ w.cell? ⟨b, off + j * 5 + 3, none⟩ = some (.slice (xs.getD j kv0).1.ok (xs.getD j kv0).1.nk (xs.getD j kv0).1.ck) ∧ w.cell? ⟨b, off + j * 5 + 4, none⟩ = some (.bool (xs.getD j kv0).2) := by
  rcases h.row with e | ⟨b, off, rfl, hc⟩
  · subst e; simp at hj
  · refine ⟨b, off, rfl, hc (j * 5) _ ?_, ?_, ?_, ?_, ?_⟩
    · have := cells_at okK kv0 xs j 0 hj (by decide)
      simpa [KE] using this
    all_goals rw [Nat.add_assoc]
    · refine hc (j * 5 + 1) _ ?_
      have := cells_at okK kv0 xs j 1 hj (by decide)
      simpa [KE] using this
    · refine hc (j * 5 + 2) _ ?_
      have := cells_at okK kv0 xs j 2 hj (by decide)
      simpa [KE] using this
    · refine hc (j * 5 + 3) _ ?_
      have := cells_at okK kv0 xs j 3 hj (by decide)
      simpa [KE] using this
    · refine hc (j * 5 + 4) _ ?_
      have := cells_at okK kv0 xs j 4 hj (by decide)
      simpa [KE] using this
/-- the list of what was told, to be read -/
structure KsIn (w : World) (o : Option Addr) (c : Nat) (vs : List KV) (L : List KR) : Prop where
  sl : Sl KE w o c vs
  len : vs.length = L.length
  each : ∀ j, j < L.length → IsC w (vs.getD j kv0).1 (L.getD j kr0).1
  done : ∀ j, j < L.length → (vs.getD j kv0).2 = (L.getD j kr0).2
/-- what Open told is right -/
structure Right (rs : List Rec) (L : List KR) : Prop where
  le : rs.length ≤ L.length
  same : ∀ j, j < rs.length → rs.getD j c0 = (L.getD j kr0).1
  rest : ∀ j, rs.length ≤ j → j < L.length → (L.getD j kr0).2 = false

set_option maxRecDepth 10000 in
set_option maxHeartbeats 1000000 in
theorem right_yes (w : World) (oa : Option Addr) (na ca : Nat) (va : List CV) (rs : List Rec) (ob : Option Addr) (nb cb : Nat) (vs : List KV) (L : List KR) (hna : na = rs.length) (hnb : nb = L.length) (hA : (na : Int) ≤ 1000) (hB : (nb : Int) ≤ 1000) (ha : RsIn w oa ca va rs) (hb : KsIn w ob cb vs L) (hr : Right rs L) :
    Calls Tryd.prog 24 #[.slice oa na ca, .slice ob nb cb] w fun e w' => e = .returned (.bool true) ∧ Keeps no w w' := by
  have HNA : Hid (na = rs.length ∧ nb = L.length) := ⟨hna, hnb⟩
  have HA : Hid (RsIn w oa ca va rs) := ha
  have HB : Hid (KsIn w ob cb vs L) := hb
  have HR : Hid (Right rs L) := hr
  have hab : (na : Int) ≤ nb := by have := hr.le; omega
  clear hna hnb ha hb hr
  go_enter Tryd.func24, Tryd.ntmps24
  go_wp2_with fail
  go_loopw [5, 6] (fun k i wr => ∃ (K I : Nat), k = .int .i64 (K : Nat) ∧ i = .int .i64 (I : Nat) ∧ (I : Int) ≤ nb ∧ (K : Int) ≤ na ∧ Hid (K = I ∨ (K = na ∧ na ≤ I)) ∧ Hid (Keeps no w wr)) (fun _ i _ => nb - (intOf i).toNat)
  case atStart => exact ⟨0, 0, rfl, rfl, by omega, by omega, .inl rfl, Keeps.refl _ _⟩
  case round =>
    rename World => wr
    obtain ⟨K, I, rfl, rfl, hI, hK, HKI, HK⟩ := hrel
    by_cases hlt : I < nb
    · have hlt' : (I : Int) < nb := by omega
      obtain ⟨b2, off2, hob, g0, g1, g2, g3, g4⟩ := (HB.out.sl.keepsN HK.out).atK (j := I) (by have := HB.out.len; have := HNA.out; omega)
      have HC2 : Hid (IsC wr (vs.getD I kv0).1 (L.getD I kr0).1) := (HB.out.each I (by have := HNA.out; omega)).keepsN HK.out
      have HDN : Hid ((vs.getD I kv0).2 = (L.getD I kr0).2) := HB.out.done I (by have := HNA.out; omega)
      generalize vs.getD I kv0 = v2 at g0 g1 g2 g3 g4 HC2 HDN
      subst hob
      by_cases hin : I < na
      · have hKe : K = I := by rcases HKI.out with h | h; exact h; omega
        subst hKe
        have hin' : (K : Int) < na := by omega
        obtain ⟨b1, off1, hoa, d0, d1, d2, d3⟩ := (HA.out.sl.keepsN HK.out).atCE (j := K) (by have := HA.out.len; have := HNA.out; omega)
        have HC1 : Hid (IsC wr (va.getD K cv0) (L.getD K kr0).1) := by have := (HA.out.each K (by have := HNA.out; omega)).keepsN HK.out; rw [HR.out.same K (by have := HNA.out; omega)] at this; exact this
        generalize va.getD K cv0 = v1 at d0 d1 d2 d3 HC1
        subst hoa
        have z0 := cell_regrown d0
        have z1 := cell_regrown d1
        have z2 := cell_regrown d2
        have z3 := cell_regrown d3
        have y0 := cell_regrown g0
        have y1 := cell_regrown g1
        have y2 := cell_regrown g2
        have y3 := cell_regrown g3
        have cS := same_grown (W := wr) (v := v1) (v' := v2.1) (r := (L.getD K kr0).1) (fun X hX => ⟨HC1.out.keepsN hX, HC2.out.keepsN hX⟩)
        clear HC1 HC2 HDN HKI
        go_wp2_with fail
        refine wp_region_quiet_below (by kernel_rfl) (by kernel_rfl) ?_
        repeat (go_big_quiet_step (exact cS _ _))
        refine wpQuiet_nil ?_
        intro _ hw'
        obtain ⟨⟨dq, osq⟩, rfl⟩ := hw'
        have K1 : Hid (Keeps no w (Sort.grow (redrawn wr dq) osq)) := HK.out.trans (keeps_grown ..)
        generalize Sort.grow (redrawn wr dq) osq = u1 at K1 ⊢
        clear d0 d1 d2 d3 g0 g1 g2 g3 g4 z0 z1 z2 z3 y0 y1 y2 y3 cS
        go_wp2_with fail
        go_roundw
        case rel => exact ⟨K + 1, K + 1, by go_num, by go_num, by omega, by omega, .inl rfl, K1⟩
        case measure => simp [intOf]; omega
      · have hKe : K = na := by rcases HKI.out with h | h; omega; exact h.1
        subst hKe
        have hin' : ¬ (K : Int) < K := by omega
        have hd : v2.2 = false := by rw [HDN.out]; exact HR.out.rest I (by have := HNA.out; omega) (by have := HNA.out; omega)
        rw [hd] at g4
        clear HC2 HDN HKI hd
        go_wp2_with fail
        refine wp_region_quiet_below (by kernel_rfl) (by kernel_rfl) ?_
        repeat (go_big_quiet_step (fail))
        refine wpQuiet_nil ?_
        intro _ hw'
        obtain ⟨⟨dq, osq⟩, rfl⟩ := hw'
        have K1 : Hid (Keeps no w (Sort.grow (redrawn wr dq) osq)) := HK.out.trans (keeps_grown ..)
        have y4 := (keeps_grown wr dq osq).cellN g4
        generalize Sort.grow (redrawn wr dq) osq = u1 at K1 y4 ⊢
        clear g0 g1 g2 g3 g4
        go_wp2_with fail
        go_roundw
        case rel => exact ⟨K, I + 1, rfl, by go_num, by omega, by omega, .inr ⟨rfl, by omega⟩, K1⟩
        case measure => simp [intOf]; omega
    · have hlt' : ¬ (I : Int) < nb := by omega
      have hKe : K = na := by rcases HKI.out with h | h; omega; exact h.1
      subst hKe
      go_wp2_with fail
      go_ret
      exact ⟨rfl, HK.out⟩
end Go.Proofs.YtgamhblkgojapaaDoor

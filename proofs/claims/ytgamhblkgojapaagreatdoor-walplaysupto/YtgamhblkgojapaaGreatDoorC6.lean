/- The program's payloadOf and Parse. -/
import Derived.Test.YtgamhblkgojapaaGreatDoorC5
namespace Go.Proofs.YtgamhblkgojapaaGreatDoor
open Go.RowKit Go.Sort Orl Pk
set_option linter.unusedVariables false
set_option linter.unusedSimpArgs false

theorem rsU32 {w w1 : World} {a : Nat} {o : Option Addr} {st : RS} (h : RStep 148 w a o st w1) :
    Calls Tryz.prog 93 #[.pointer (some ⟨a, 0, none⟩)] w1 fun e w2 => (∃ v : Nat, e = .returned (.int .u32 (v : Nat)) ∧ Hid (v = (rnum 4 st).1) ∧ v < 4294967296) ∧ RStep 148 w a o (rnum 4 st).2 w2 ∧ Keeps (eqA a) w1 w2 := by
  have hb := h.byt
  obtain ⟨o1, c1, hR, hS, hK⟩ := h
  refine (rU32_any w1 a o1 c1 st.1 st.2 hR).mono ?_
  rintro e w2 ⟨rfl, h2⟩
  exact ⟨⟨_, rfl, rfl, by have := rnum_lt 4 st.1 st.2 hb; omega⟩, h2.trans hS hK, h2.keeps⟩
theorem head_nums (b : List Nat) (h : 8 ≤ b.length) : (rnum 4 (b.take 8, 0)).1 = Pk.val (b.take 4) ∧ (rnum 4 (rnum 4 (b.take 8, 0)).2).1 = chk b := by
  have e1 : rnum 4 (b.take 8, 0) = (Pk.val ((b.take 8).take 4), ((b.take 8).drop 4, 0)) := by
    unfold rnum
    rw [if_neg (by simp), if_neg (by rw [List.length_take]; omega)]
  have e2 : rnum 4 ((b.take 8).drop 4, 0) = (Pk.val (((b.take 8).drop 4).take 4), (((b.take 8).drop 4).drop 4, 0)) := by
    unfold rnum
    rw [if_neg (by simp), if_neg (by rw [List.length_drop, List.length_take]; omega)]
  rw [e1]
  simp only
  rw [e2]
  simp only
  refine ⟨by rw [List.take_take]; rfl, ?_⟩
  unfold chk
  rw [List.drop_take, List.take_take]; rfl
theorem cut_hk (k : IntKind) (w0 : World) (o : Option Addr) (c : Nat) (bs : List Nat) (n I : Nat) (hn : n = bs.length) (hI : I ≤ n) (h : BSl w0 o c bs) :
    (∀ w, (Instr.slice 42 (.slice o n c) none (some (.int k (I : Nat))) none).run Tryz.prog w = .ok (.slice o I c) w) ∧ BSl w0 o c (bs.take I) := by
  subst hn
  have hcap := h.cap
  match o, h with
  | none, h =>
    obtain rfl : c = 0 := h.nil rfl
    obtain rfl : I = 0 := by omega
    refine ⟨fun w => ?_, ⟨h.row.take 0, by simp, fun _ => rfl⟩⟩
    rw [run_slice_h w 42 none _ 0 slB k _ (by omega) (by omega)]
    go_simp
  | some ad, h =>
    refine ⟨fun w => ?_, ⟨h.row.take I, by rw [List.length_take]; omega, h.nil⟩⟩
    rw [run_slice_h w 42 (some ad) _ c slB k _ (by omega) (by omega)]
    go_simp

theorem parse_short {b : List Nat} (h : b.length < 8) : parse b = (c0, 0, 91) := by unfold parse; rw [if_pos h]
theorem parse_long {b : List Nat} (h : 8 ≤ b.length) (hv : 1048576 < Pk.val (b.take 4)) : parse b = (c0, 0, 3) := by unfold parse; rw [if_neg (by omega), if_pos hv]
theorem parse_torn {b : List Nat} (h : 8 ≤ b.length) (hv : Pk.val (b.take 4) ≤ 1048576) (hl : b.length - 8 < Pk.val (b.take 4)) : parse b = (c0, 0, 91) := by unfold parse; rw [if_neg (by omega), if_neg (by omega), if_pos hl]
theorem parse_sum {b : List Nat} (h : 8 ≤ b.length) (hv : Pk.val (b.take 4) ≤ 1048576) (hl : Pk.val (b.take 4) ≤ b.length - 8) (hs : Crc.sum (pay b) ≠ chk b) : parse b = (c0, 0, 90) := by unfold parse; rw [if_neg (by omega), if_neg (by omega), if_neg (by omega), if_pos hs]
theorem parse_rest {b : List Nat} (h : 8 ≤ b.length) (hv : Pk.val (b.take 4) ≤ 1048576) (hl : Pk.val (b.take 4) ≤ b.length - 8) (hs : Crc.sum (pay b) = chk b) : parse b = if rok (pay b) then ((rrec (pay b)).1, 8 + (pay b).length, 0) else (c0, 0, 2) := by unfold parse; rw [if_neg (by omega), if_neg (by omega), if_neg (by omega), if_neg (by simp [hs])]
/-- what payloadOf tells -/
def PayTo (w : World) (b : List Nat) (e : Ending) (w' : World) : Prop :=
  Keeps no w w' ∧ ((∃ E : Nat, (0 < E ∧ E ≤ 91) ∧ parse b = (c0, 0, E) ∧ e = .returned (.tuple #[.slice none 0 0, .int .i64 (E : Nat)])) ∨
    (parse b = (if rok (pay b) then ((rrec (pay b)).1, 8 + (pay b).length, 0) else (c0, 0, 2)) ∧ (pay b).length ≤ 1048576 ∧ ∃ A n d, e = .returned (.tuple #[.slice A n d, .int .i64 0]) ∧ Hid (n = (pay b).length) ∧ BSl w' A d (pay b)))

set_option maxRecDepth 10000 in
theorem payloadOf_any (w : World) (o : Option Addr) (n c : Nat) (b : List Nat) (hn : n = b.length) (hnb : (n : Int) ≤ 281474976710656) (hs : BSl w o c b) (ht : TabIn w) :
    Calls Tryz.prog 73 #[.slice o n c] w (PayTo w b) := by
  have HN : Hid (n = b.length) := hn
  by_cases h8 : n < 8
  · have h8' : (n : Int) < 8 := by omega
    have HP : Hid (parse b = (c0, 0, 91)) := parse_short (by omega)
    clear hn
    go_enter Tryz.func73, Tryz.ntmps73
    go_wp2_with fail
    go_ret2
    exact ⟨Keeps.refl _ _, .inl ⟨91, by omega, HP.out, rfl⟩⟩
  have h8' : ¬ (n : Int) < 8 := by omega
  obtain ⟨hcut, hsl8⟩ := cut_hk .i64 w o c b n 8 hn (by omega) hs
  have HS8 : Hid (BSl w o c (b.take 8)) := hsl8
  have HL8 : Hid (8 = (b.take 8).length) := by show _ = _; rw [List.length_take]; omega
  have HB8 : Hid (8 ≤ b.length) := by show 8 ≤ b.length; omega
  obtain ⟨q1, q2⟩ := head_nums b (by omega)
  have HQ : Hid ((rnum 4 (b.take 8, 0)).1 = Pk.val (b.take 4) ∧ (rnum 4 (rnum 4 (b.take 8, 0)).2).1 = chk b) := ⟨q1, q2⟩
  obtain ⟨A, d, hcut2, hslA, _⟩ := cut_l w o c b n 8 8 rfl hn (by omega) hs
  have HSA : Hid (BSl w A d (b.drop 8)) := hslA
  obtain ⟨N8, hN8⟩ : ∃ N, N = n - 8 := ⟨_, rfl⟩
  rw [← hN8] at hcut2
  have HN8 : Hid (N8 = n - 8) := hN8
  have hN8b : (N8 : Int) ≤ 281474976710656 := by omega
  clear hn hsl8 q1 q2 hslA h8 hN8
  rw [show ((8 : Nat) : Int) = 8 from rfl] at hcut
  go_enter Tryz.func73, Tryz.ntmps73
  go_wp2_with fail
  refine (newReader_any w o 8 c (b.take 8) HL8.out HS8.out (by rw [← HL8.out]; omega)).mono ?_
  rintro e w1 ⟨a, o1, c1, rfl, hR1, hnew1, hk1⟩
  have hk1' : Keeps no w w1 := hk1
  go_wp2_with fail
  refine (rsU32 (RStep.start hR1)).mono ?_
  rintro e w2 ⟨⟨V, rfl, hV, hVb⟩, h2, hk2⟩
  go_wp2_with fail
  refine (rsU32 h2).mono ?_
  rintro e w3 ⟨⟨C, rfl, hC, hCb⟩, h3, hk3⟩
  have HV : Hid (V = Pk.val (b.take 4) ∧ C = chk b) := ⟨by rw [hV.out]; exact HQ.out.1, by rw [hC.out]; exact HQ.out.2⟩
  have HK3 : Hid (Keeps no w w3) := hk1'.then h3.keeps (fun i hi => .inr (by unfold eqA at hi; subst hi; exact hnew1 _ (.inl rfl)))
  clear hV hC h2 h3 hk1 hk2 hk3 hnew1 hR1 hk1'
  by_cases hv : 1048576 < V
  · have hv' : (V : Int) > 1048576 := by omega
    have HP : Hid (parse b = (c0, 0, 3)) := parse_long HB8.out (by rw [← HV.out.1]; exact hv)
    clear hv
    go_wp2_with fail
    go_ret2
    exact ⟨HK3.out, .inl ⟨3, by omega, HP.out, rfl⟩⟩
  have hv' : ¬ (V : Int) > 1048576 := by omega
  have hv2 : (V : Int) ≤ 1048576 := by omega
  have HVL : Hid (V ≤ 1048576) := by show V ≤ 1048576; omega
  clear hv
  by_cases hl : N8 < V
  · have hl' : (N8 : Int) < V := by omega
    have HP : Hid (parse b = (c0, 0, 91)) := parse_torn HB8.out (by rw [← HV.out.1]; exact HVL.out) (by rw [← HV.out.1, ← HN.out, ← HN8.out]; exact hl)
    clear hl
    go_wp2_with fail
    go_ret2
    exact ⟨HK3.out, .inl ⟨91, by omega, HP.out, rfl⟩⟩
  have hl' : ¬ (N8 : Int) < V := by omega
  have HLL : Hid (Pk.val (b.take 4) ≤ b.length - 8) := by show _ ≤ _; rw [← HV.out.1, ← HN.out, ← HN8.out]; omega
  obtain ⟨hcut3, hsl3⟩ := cut_hk .u32 w3 A d (b.drop 8) N8 V (by rw [List.length_drop, ← HN.out]; exact HN8.out) (by omega) (HSA.out.keeps HK3.out (fun _ _ h => h))
  have hpe : (b.drop 8).take V = pay b := by unfold pay; rw [HV.out.1]
  rw [hpe] at hsl3
  have HS3 : Hid (BSl w3 A d (pay b)) := hsl3
  have HVP : Hid (V = (pay b).length) := by
    show _ = _
    unfold pay; rw [List.length_take, List.length_drop, ← HV.out.1]
    have := HLL.out; have := HV.out.1; omega
  clear hl hsl3 hpe
  go_wp2_with fail
  refine (sum_any A V (pay b) d HVP.out w3 (ht.keepsN HK3.out) HS3.out.row).mono ?_
  rintro e w' ⟨rfl, hw'⟩
  subst w'
  have hslt : Crc.sum (pay b) < 4294967296 := Crc.update_lt 0 _ (by decide) HS3.out.row.1
  by_cases hsm : Crc.sum (pay b) = C
  · have HP : Hid (parse b = if rok (pay b) then ((rrec (pay b)).1, 8 + (pay b).length, 0) else (c0, 0, 2)) := parse_rest HB8.out (by rw [← HV.out.1]; exact HVL.out) HLL.out (by rw [hsm]; exact HV.out.2)
    rw [hsm]
    clear hsm hslt
    go_wp2_with fail
    go_ret2
    exact ⟨HK3.out, .inr ⟨HP.out, by rw [← HVP.out]; exact HVL.out, A, V, d, rfl, HVP, HS3.out⟩⟩
  · have HP : Hid (parse b = (c0, 0, 90)) := parse_sum HB8.out (by rw [← HV.out.1]; exact HVL.out) HLL.out (by rw [← HV.out.2]; exact hsm)
    generalize Crc.sum (pay b) = S at hsm hslt ⊢
    have hsm1 : ((S : Int) == (C : Int)) = false := by simp; omega
    have hsm2 : ¬ (S : Int) = (C : Int) := by omega
    clear hsm
    go_wp2_with fail
    go_ret2
    exact ⟨HK3.out, .inl ⟨90, by omega, HP.out, rfl⟩⟩
end Go.Proofs.YtgamhblkgojapaaGreatDoor

/- One call on a disk and on the document's, whatever it is; all that two such disks tell. -/
import Derived.Test.YtgobakfffobpkaaQ3
namespace Go.Proofs.Ytgobakfffobpkaa
open Go.RowKit Dk
set_option linter.unusedVariables false
set_option linter.unusedSimpArgs false

theorem plays_any (w : World) (p r : Nat) (F G : Nat → Prop) (s : St) (o : OpV) (h : IsD w p F s) (hr : IsR w r G s) (ap : ∀ k, F k → ¬ G k) (ho : o.ok w) (hof : ∀ k, inO o.ob k → 0 < o.cb → ¬ F k ∧ ¬ G k) (M : Nat) (hR : Room M s) (hM : M ≤ 70368744177664) :
    Calls Try.prog 33 #[.pointer (some ⟨p, 0, none⟩), .pointer (some ⟨r, 0, none⟩), .agg o.cells] w (PlaysTo F G w p r s o) := by
  by_cases c1 : o.kind = 1
  · exact plays_1 w p r F G s o h hr ap ho hof M hR hM c1
  by_cases c2 : o.kind = 2
  · exact plays_2 w p r F G s o h hr ap ho hof M hR hM c2
  by_cases c3 : o.kind = 3
  · exact plays_3 w p r F G s o h hr ap ho hof M hR hM c3
  by_cases c4 : o.kind = 4
  · exact plays_4 w p r F G s o h hr ap ho hof M hR hM c4
  by_cases c5 : o.kind = 5
  · exact plays_5 w p r F G s o h hr ap ho hof M hR hM c5
  by_cases c6 : o.kind = 6
  · exact plays_6 w p r F G s o h hr ap ho hof M hR hM c6
  by_cases c7 : o.kind = 7
  · exact plays_7 w p r F G s o h hr ap ho hof M hR hM c7
  by_cases c8 : o.kind = 8
  · exact plays_8 w p r F G s o h hr ap ho hof M hR hM c8
  by_cases c9 : o.kind = 9
  · exact plays_9 w p r F G s o h hr ap ho hof M hR hM c9
  by_cases c10 : o.kind = 10
  · exact plays_10 w p r F G s o h hr ap ho hof M hR hM c10
  by_cases c11 : o.kind = 11
  · exact plays_11 w p r F G s o h hr ap ho hof M hR hM c11
  by_cases c12 : o.kind = 12
  · exact plays_12 w p r F G s o h hr ap ho hof M hR hM c12
  exact plays_0 w p r F G s o h hr ap ho hof M hR hM c1 c2 c3 c4 c5 c6 c7 c8 c9 c10 c11 c12

theorem Pair.comp {F0 G0 F G F' G' : Nat → Prop} {w0 w w' : World} {p r : Nat} {s t s' t' : St} (h : Pair F0 G0 w0 w p s r t F G) (h' : Pair F G w w' p s' r t' F' G') : Pair F0 G0 w0 w' p s' r t' F' G' := by
  have h0 := h.kept.size
  refine ⟨h'.a, h'.b, h'.ap, fun k hk => ?_, fun k hk => ?_, h.kept.then h'.kept (fun k hk => ?_)⟩
  · rcases h'.nf k hk with h1 | h1
    · exact h.nf k h1
    · exact .inr (by omega)
  · rcases h'.ng k hk with h1 | h1
    · exact h.ng k h1
    · exact .inr (by omega)
  · rcases hk with h1 | h1
    · rcases h.nf k h1 with h2 | h2
      · exact .inl (.inl h2)
      · exact .inr h2
    · rcases h.ng k h1 with h2 | h2
      · exact .inl (.inr h2)
      · exact .inr h2
theorem name_max {t : St} (h : Ok t) {x : Tx} (hx : x ∈ (listN t).map mkT) : x.size ≤ maxLen := by
  obtain ⟨n, hn, rfl⟩ := List.mem_map.1 hx
  unfold listN at hn
  split at hn
  · cases hn
  · simp only [names, List.mem_map] at hn
    obtain ⟨q, hq, rfl⟩ := hn
    have := h.nm q hq
    simp only [good, Bool.and_eq_true, decide_eq_true_eq] at this
    show (mkT q.1).data.size ≤ maxLen
    simp only [mkT, List.size_toArray]
    unfold maxLen
    omega
/-- what alike's inner loop holds: the two disks, and the list of names -/
structure Alk (F0 G0 : Nat → Prop) (w0 w : World) (p r : Nat) (s : St) (F G : Nat → Prop) (M : Nat) (o : Option Addr) (c : Nat) (ns : List Tx) : Prop where
  pr : Pair F0 G0 w0 w p s r s F G
  rm : Room M s
  own : Own TE w o c ns
  nf : ∀ k, inO o k → ¬ F k ∧ ¬ G k
  nm : ∀ x ∈ ns, x.size ≤ maxLen
theorem Alk.step {F0 G0 F G F' G' : Nat → Prop} {w0 w w' : World} {p r : Nat} {s s' : St} {M : Nat} {o : Option Addr} {c : Nat} {ns : List Tx} (h : Alk F0 G0 w0 w p r s F G M o c ns) (h' : Pair F G w w' p s' r s' F' G') (hr : Room M s') : Alk F0 G0 w0 w' p r s' F' G' M o c ns := by
  refine ⟨h.pr.comp h', hr, h.own.keeps h'.kept (fun k h1 h2 => ?_), fun k h1 => ⟨fun h2 => ?_, fun h2 => ?_⟩, h.nm⟩
  · rcases h2 with h2 | h2
    · exact (h.nf k h1).1 h2
    · exact (h.nf k h1).2 h2
  · rcases h'.nf k h2 with h3 | h3
    · exact (h.nf k h1).1 h3
    · have := h.own.lt k h1; omega
  · rcases h'.ng k h2 with h3 | h3
    · exact (h.nf k h1).2 h3
    · have := h.own.lt k h1; omega
def rdop (n : Tx) : OpV := ⟨3, 0, n, ⟨#[]⟩, none, 0, [], 0, 0⟩
theorem rdop_ok (w : World) {n : Tx} (h : n.size ≤ maxLen) : (rdop n).ok w := ⟨show i64 3 from ⟨by decide, by decide⟩, show i64 0 from ⟨by decide, by decide⟩, show i64 0 from ⟨by decide, by decide⟩, show i64 0 from ⟨by decide, by decide⟩, h, Nat.zero_le _, ⟨.inl rfl, Nat.le_refl _, fun _ => rfl⟩, fun k _ h => (Nat.lt_irrefl _ h).elim, Nat.zero_le _⟩

set_option maxRecDepth 100000 in
set_option maxHeartbeats 0 in
theorem alike_any (w : World) (p r : Nat) (F G : Nat → Prop) (s : St) (h : IsD w p F s) (hr : IsR w r G s) (ap : ∀ k, F k → ¬ G k) (M : Nat) (hR : Room M s) (hM : M ≤ 70368744177664) :
    Calls Try.prog 35 #[.pointer (some ⟨p, 0, none⟩), .pointer (some ⟨r, 0, none⟩)] w fun e w' => e = .returned (.bool true) ∧ Keeps (fun k => F k ∨ G k) w w' := by
  have HP : Hid (Pair F G w w p s r s F G ∧ Room M s) := ⟨Pair.start h hr ap (Keeps.refl _ _), hR⟩
  clear h hr ap hR
  go_enter Try.func35, Try.ntmps35
  go_wp2_with fail
  go_loopw [5] (fun i wr => ∃ (k : Nat) (s' : St) (F' G' : Nat → Prop), k ≤ 2 ∧ i = .int .i64 k ∧ Hid (Pair F G w wr p s' r s' F' G' ∧ Room M s')) (fun i _ => 2 - (intOf i).toNat)
  case atStart => exact ⟨0, s, F, G, by omega, rfl, HP.out⟩
  case round =>
    clear HP s
    obtain ⟨k, s, F', G', hk, rfl, HD⟩ := hrel
    by_cases hlt : k < 2
    · have hlt4 : (k : Int) < 2 := by omega
      have hlt5 : decide ((k : Int) < 2) = true := by simpa using hlt4
      go_wp2_with fail
      refine (up_any _ p F' s HD.out.1.a).mono ?_
      rintro e w2 ⟨rfl, h2, hk2⟩
      have D2 : Hid (Pair F G w w2 p (up s) r s F' G') := HD.out.1.sameA h2 hk2
      clear h2 hk2
      go_wp2_with fail
      refine (rup_any _ r G' s D2.out.b).mono ?_
      rintro e w3 ⟨rfl, h3, hk3⟩
      have D3 : Hid (Pair F G w w3 p (up s) r (up s) F' G') := D2.out.sameB h3 hk3
      clear h3 hk3 D2
      go_wp2_with fail
      refine (list_any _ p F' (up s) D3.out.a).mono ?_
      rintro e w4 ⟨o4, c4, m4, rfl, hm4, ho4, hn4, h4, hk4⟩
      have D4 : Hid (Pair F G w w4 p (tick (up s)) r (up s) F' G') := D3.out.sameA h4 hk4
      clear h4
      go_wp2_with fail
      refine (rlist_any _ r G' (up s) D4.out.b).mono ?_
      rintro e w5 ⟨o5, c5, m5, rfl, hm5, ho5, hn5, h5, hk5⟩
      have D5 : Hid (Pair F G w w5 p (tick (up s)) r (tick (up s)) F' G') := D4.out.sameB h5 hk5
      have HO4 : Hid (Sl TE w5 o4 c4 ((listN (tick (up s))).map mkT)) := (ho4.keeps hk5 (fun k h1 h4 => by have := hn4 k h1; have := D3.out.b.lt k h4; omega)).sl
      have HL : Hid (((listN (tick (up s))).map mkT).length ≤ 16) := (show ((listN (tick (up s))).map mkT).length ≤ 16 by rw [List.length_map]; exact listN_le D5.out.b.ok)
      have HAK : Hid (Alk F G w w5 p r (tick (up s)) F' G' M o5 c5 ((listN (tick (up s))).map mkT)) := ⟨D5.out, (room_up HD.out.2).tick, ho5, fun k h1 => ⟨fun h2 => by have := hn5 k h1; have := D4.out.a.lt k h2; omega, fun h2 => by have := hn5 k h1; have := D4.out.b.lt k h2; omega⟩, fun x hx => name_max D5.out.b.ok hx⟩
      obtain ⟨ns, hns⟩ : ∃ ns, ns = (listN (tick (up s))).map mkT := ⟨_, rfl⟩
      have HM4 : Hid (m4 = ns.length) := (show m4 = ns.length by rw [hm4.out, hns, List.length_map])
      have HM5 : Hid (m5 = ns.length) := (show m5 = ns.length by rw [hm5.out, hns, List.length_map])
      rw [← hns] at HO4 HL HAK
      clear h5 ho4 ho5 hn4 hn5 hk4 hk5 hm4 hm5 hns D3 D4 D5 HD
      go_wp2_with fail
      refine (sameS_any w5 o4 m4 c4 o5 m5 c5 ns ns HM4.out HM5.out (by have := HL.out; omega) (by have := HL.out; omega) HO4.out HAK.out.own.sl).mono ?_
      rintro e w6 ⟨⟨b6, rfl, hb6⟩, hk6⟩
      obtain rfl : b6 = true := hb6.out.2 rfl
      have HA6 : Hid (Alk F G w w6 p r (tick (up s)) F' G' M o5 c5 ns) := ⟨HAK.out.pr.beside hk6, HAK.out.rm, HAK.out.own.keepsN hk6, HAK.out.nf, HAK.out.nm⟩
      have hm16 : m5 ≤ 16 := by have := HL.out; have := HM5.out; omega
      clear hb6 hk6 HAK HO4
      go_wp2_with fail
      go_loopw [10] (fun i wr => ∃ (j : Nat) (s' : St) (F' G' : Nat → Prop), j ≤ m5 ∧ i = .int .i64 j ∧ Hid (Alk F G w wr p r s' F' G' M o5 c5 ns)) (fun i _ => m5 - (intOf i).toNat)
      case atStart => exact ⟨0, _, _, _, by omega, rfl, HA6.out⟩
      case round =>
        clear HA6
        obtain ⟨j, z, F1, G1, hj, rfl, HA⟩ := hrel
        rename World => wq
        by_cases hjl : j < m5
        · have hjn : j < ns.length := by have := HM5.out; omega
          obtain ⟨g, hg, hcl⟩ := own_t HA.out.own (by omega)
          subst hg
          have d1 := (hcl j hjn).1
          obtain ⟨nm, hnm⟩ : ∃ nm, nm = ns.getD j e0 := ⟨_, rfl⟩
          rw [← hnm] at d1
          have HNM : Hid (nm.size ≤ maxLen) := (show nm.size ≤ maxLen by rw [hnm]; exact HA.out.nm _ (getD_mem ns j e0 hjn))
          clear hnm hcl hjn
          go_wp2_with fail
          refine (plays_any wq p r F1 G1 z (rdop nm) HA.out.pr.a HA.out.pr.b HA.out.pr.ap (rdop_ok wq HNM.out) (fun k _ h => (Nat.lt_irrefl _ h).elim) M HA.out.rm hM).mono ?_
          rintro e w7 ⟨rfl, F2, G2, h7⟩
          have HA7 : Hid (Alk F G w w7 p r _ F2 G2 M (some ⟨g, 0, none⟩) c5 ns) := HA.out.step h7 ((doesOn_room (o := rdop nm) HA.out.rm).mono (by simp [rdop]))
          clear h7 HA d1
          go_wp2_with fail
          go_roundw
          case rel => exact ⟨j + 1, _, _, _, by omega, by go_num, HA7.out⟩
          case measure => simp [intOf]; omega
        · have hjn : j = m5 := by omega
          go_wp2_with fail
          refine (crash_any _ p F1 z 0 HA.out.pr.a ⟨by decide, by decide⟩).mono ?_
          rintro e w8 ⟨rfl, h8, hk8⟩
          have D8 : Hid (Pair F G w w8 p (crash 0 z) r z F1 G1) := HA.out.pr.sameA h8 hk8
          clear h8 hk8
          go_wp2_with fail
          refine (rcrash_any _ r G1 z 0 D8.out.b ⟨by decide, by decide⟩).mono ?_
          rintro e w9 ⟨rfl, h9, hk9⟩
          have D9 : Hid (Pair F G w w9 p (crash 0 z) r (crash 0 z) F1 G1) := D8.out.sameB h9 hk9
          have HR9 : Hid (Room M (crash 0 z)) := HA.out.rm.crash
          clear h9 hk9 D8
          go_wp2_with fail
          go_roundw
          case rel => exact ⟨k + 1, _, _, _, by omega, by go_num, ⟨D9.out, HR9.out⟩⟩
          case measure => simp [intOf]; omega
    · have hk2 : k = 2 := by omega
      subst hk2
      go_wp2_with fail
      go_ret
      exact ⟨rfl, HD.out.1.kept⟩
end Go.Proofs.Ytgobakfffobpkaa

import Derived.Test.YtkoaiibjahlnmaaGreatDLD
import Derived.Test.YtkoaiibjahlnmaaGreatDE
import Derived.Test.YtkoaiibjahlnmaaGreatDP
/- StoreLoads. -/
namespace Go.Proofs.YtkoaiibjahlnmaaGreat
open Go.RowKit Go.Maps Go.Sort Orl
set_option linter.unusedVariables false
set_option linter.unusedSimpArgs false

theorem inc_of_rising {ks : List KV} (h : rising ltk ks = true) : Inc ltM (ks.map (·.m)) := by
  have := (rising_iff swoK ks).1 h
  unfold Inc at this ⊢
  rw [List.pairwise_map]
  exact this
theorem there_V {ks : List KV} (h : rising ltk ks = true) (m : Mk) : there ks m = ((loadKs ks).V m).isSome := by
  have hi := inc_of_rising h
  have hne := inck_ne ((rising_iff swoK ks).1 h)
  by_cases hm : m ∈ ks.map (·.m)
  · rw [(there_iff hi).2 hm]
    obtain ⟨x, hx, rfl⟩ := List.mem_map.1 hm
    rw [loadKs_some hne hx]; rfl
  · have h1 : there ks m = false := by
      cases ht : there ks m with
      | false => rfl
      | true => exact absurd ((there_iff hi).1 ht) hm
    rw [h1, loadKs_none (fun x hx e => hm (List.mem_map.2 ⟨x, hx, e⟩))]; rfl
theorem docLoad_eq (ks : List KV) (ls : List Mk) : docLoad ks ls = okLoad ks ls := by
  rw [Bool.eq_iff_iff]
  unfold docLoad okLoad okKept fitsAll hasAll
  simp only [Bool.and_eq_true, List.all_eq_true, loadedB_eq]
  constructor
  · rintro ⟨⟨h1, h2⟩, h3, h4⟩
    exact ⟨⟨⟨fun x hx => (h1 x hx).1, h2⟩, h4⟩, fun x hx => (h1 x hx).2, fun l hl => by rw [← there_V h2]; exact h3 l hl⟩
  · rintro ⟨⟨⟨h1, h2⟩, h4⟩, h5, h3⟩
    exact ⟨⟨fun x hx => ⟨h1 x hx, h5 x hx⟩, h2⟩, fun l hl => by rw [there_V h2]; exact h3 l hl, h4⟩
theorem ksEq_trans {a b c : List KV} (h : KsEq a b) (k : KsEq b c) : KsEq a c := ⟨h.1.trans k.1, fun j hj => by
  obtain ⟨p1, p2, p3, p4⟩ := h.2 j hj
  obtain ⟨q1, q2, q3, q4⟩ := k.2 j (by rw [← h.1]; exact hj)
  exact ⟨p1.trans q1, p2.trans q2, p3.trans q3, p4.trans q4⟩⟩
/-- what the document tells of what was loaded -/
theorem load_kd {ks kb : List KV} {ls : List Mk} (h : okLoad ks ls = true) (he : KsEq ks kb) : IsKs (loadS ks ls) kb ∧ (∀ m, (loadS ks ls).V m ≠ none → m ∈ kb.map (·.m)) ∧ Inc ltM (kb.map (·.m)) := by
  unfold okLoad okKept at h
  simp only [Bool.and_eq_true] at h
  have hr := h.1.1.2
  have hne := inck_ne ((rising_iff swoK ks).1 hr)
  refine ⟨fun x hx => ?_, fun m hm => ?_, ?_⟩
  · obtain ⟨j, hj, rfl⟩ := List.getElem_of_mem hx
    have hj1 : j < ks.length := by rw [he.1]; exact hj
    obtain ⟨q1, q2, q3, q4⟩ := he.2 j hj1
    have g2 : kb.getD j kv0 = kb[j] := by simp [List.getD_eq_getElem?_getD, hj]
    rw [g2] at q1 q2 q3 q4
    rw [loadS_V, ← q1, loadKs_some hne (getD_mem_lt kv0 hj1)]
    simp only [KV.vr, q2, q3, q4]
  · rw [← ksEq_m he]
    rw [loadS_V] at hm
    by_cases hc : m ∈ ks.map (·.m)
    · exact hc
    · exact absurd (loadKs_none (fun x hx e => hc (List.mem_map.2 ⟨x, hx, e⟩))) hm
  · rw [← ksEq_m he]; exact inc_of_rising hr
theorem load_ld {ks : List KV} {ls : List Mk} (h : okLoad ks ls = true) : IsLs (loadS ks ls) ls := by
  unfold okLoad okKept hasAll at h
  simp only [Bool.and_eq_true] at h
  obtain ⟨⟨⟨h1, h2⟩, h3⟩, h4, h5⟩ := h
  have hil := (rising_iff swoL ls).1 h3
  have hnk := nk_inc hil
  refine ⟨?_, fun k i => ?_⟩
  · unfold Inc at hil ⊢
    rw [List.pairwise_map]
    exact hil
  · rw [loadS_last hnk]
    unfold lastIn
    constructor
    · intro hm
      rw [fnd_of_mem hnk hm]
      refine ⟨rfl, fun e => ?_⟩
      have h6 := List.all_eq_true.1 h5 (k, i) hm
      by_cases hc : ∃ x ∈ ks, x.m = (k, i)
      · obtain ⟨x, hx, hxm⟩ := hc
        have h7 := List.all_eq_true.1 h1 x hx
        simp only [okKv, Bool.and_eq_true, decide_eq_true_eq] at h7
        have := h7.1
        rw [hxm] at this
        simp only at this
        omega
      · rw [loadKs_none (fun x hx e => hc ⟨x, hx, e⟩)] at h6
        cases h6
    · rintro ⟨e, hi⟩
      cases hf : fnd k ls with
      | none => rw [hf] at e; exact absurd e.symm hi
      | some j => rw [hf] at e; have e' : j = i := e; rw [← e']; exact fnd_mem hf
set_option maxRecDepth 10000 in
set_option maxHeartbeats 1000000 in
theorem loads_any (w : World) (oa : Option Addr) (na ca : Nat) (ks : List KV) (ob : Option Addr) (nb cb : Nat) (ls : List Mk) (hna : na = ks.length) (hnb : nb = ls.length) (hla : ks.length ≤ 1954687338211) (hlb : ls.length ≤ 5864062014634) (ha : Sl KE w oa ca ks) (hb : Sl LE w ob cb ls) (hi : InD w ks) (hl : ∀ l ∈ ls, KM.ok l) :
    Calls Tryz.prog 6 #[.slice oa na ca, .slice ob nb cb] w fun e w' => e = .returned (.bool true) ∧ Keeps no w w' := by
  have HK : Hid (InK w ks) := ⟨fun x hx => ⟨(hi.key x hx).1, (hi.key x hx).2.1, (hi.key x hx).2.2.1, (hi.key x hx).2.2.2.1, (hi.key x hx).2.2.2.2.1⟩⟩
  have HA : Hid (na = ks.length ∧ nb = ls.length ∧ ks.length ≤ 1954687338211 ∧ ls.length ≤ 5864062014634 ∧ Sl KE w oa ca ks ∧ Sl LE w ob cb ls ∧ InD w ks ∧ ∀ l ∈ ls, KM.ok l) := ⟨hna, hnb, hla, hlb, ha, hb, hi, hl⟩
  have hc := load_any w oa na ca ks ob nb cb ls hna hnb hla hlb ha hb HK.out hl
  have HD : Hid (∀ X, Keeps no w X → Calls Tryz.prog 25 #[.slice oa na ca, .slice ob nb cb] X fun e w' => (okLoad ks ls = true → ∃ p, e = .returned (.tuple #[.pointer (some ⟨p, 0, none⟩), .int .i64 0]) ∧ Hid (∃ oK cK oL cL ks', RO (fun b => X.heap.size ≤ b) w' p oK na cK oL nb cL ks' ls ∧ KsEq ks ks' ∧ Keeps no X w')) ∧ (okLoad ks ls = false → e = .returned (.tuple #[.pointer none, .int .i64 1]) ∧ Keeps no X w')) := fun X hX => by
    have := rLoad_any X oa na ca ks ob nb cb ls hna hnb hla hlb (ha.keepsN hX) (hb.keepsN hX) (hi.keepsN hX)
    rw [docLoad_eq] at this
    exact this
  clear hna hnb hla hlb ha hb hi hl HK
  cases hok : okLoad ks ls with
  | false =>
    rw [hok] at hc HD
    go_enter Tryz.func6, Tryz.ntmps6
    go_wp2_with fail
    refine hc.mono ?_
    rintro e w1 ⟨hx1, h1⟩
    clear hx1
    obtain ⟨rfl, hk1⟩ := h1 trivial
    clear h1
    have HK1 : Hid (Keeps no w w1) := hk1
    go_wp2_with fail
    refine (HD.out _ HK1.out).mono ?_
    rintro e w2 ⟨hx2, h2⟩
    clear hx2
    obtain ⟨rfl, hk2⟩ := h2 trivial
    have HK2 : Hid (Keeps no w w2) := HK1.out.trans hk2
    clear h2 hk2 hk1 hc HD
    go_wp2_with fail
    refine (known_any w2).mono ?_
    rintro e w3 ⟨rfl, hk3⟩
    have HK3 : Hid (Keeps no w w3) := HK2.out.trans hk3
    clear hk3
    go_wp2_with fail
    go_ret
    exact ⟨rfl, HK3.out⟩
  | true =>
    rw [hok] at hc HD
    have HOK : Hid (okLoad ks ls = true) := hok
    clear hok
    go_enter Tryz.func6, Tryz.ntmps6
    go_wp2_with fail
    refine hc.mono ?_
    rintro e w1 ⟨h1, hx1⟩
    clear hx1
    obtain ⟨p, rfl, ho1⟩ := h1 trivial
    have HO1 : Hid (Ow w w1 p (loadS ks ls) ks.length no) := ho1
    clear h1 ho1 hc
    go_wp2_with fail
    refine (HD.out _ HO1.out.keep).mono ?_
    rintro e w2 ⟨h2, hx2⟩
    clear hx2
    obtain ⟨r, rfl, h3⟩ := h2 trivial
    obtain ⟨oK, cK, oL, cL, ks', hro, hks, hk2⟩ := h3.out
    have HR : Hid (RO (fun b => w1.heap.size ≤ b) w2 r oK na cK oL nb cL ks' ls ∧ KsEq ks ks') := ⟨hro, hks⟩
    have HO2 : Hid (Ow w w2 p (loadS ks ls) ks.length no) := HO1.out.go hk2
    clear h2 h3 hro hks hk2 HD HO1
    go_wp2_with fail
    refine (known_any w2).mono ?_
    rintro e w3 ⟨rfl, hk3⟩
    have HO3 : Hid (Ow w w3 p (loadS ks ls) ks.length no ∧ RO (fun b => w1.heap.size ≤ b) w3 r oK na cK oL nb cL ks' ls) := ⟨HO2.out.go hk3, HR.out.1.keepsN hk3⟩
    clear hk3 HO2
    go_wp2_with fail
    refine (HO3.out.1.keptK HA.out.2.2.1).mono ?_
    rintro e w4 ⟨o4, n4, c4, k4, rfl, h4⟩
    have H4 : Hid (Kd (loadS ks ls) k4 o4 n4 c4 w4 ∧ Ow w w4 p (loadS ks ls) ks.length no ∧ RO (fun b => w1.heap.size ≤ b) w4 r oK na cK oL nb cL ks' ls) := ⟨h4.out.1, HO3.out.1.go h4.out.2.2.1, HO3.out.2.keepsN h4.out.2.2.1⟩
    clear h4 HO3
    have HRK : Hid (RK w4 ks') := ⟨fun x hx => ⟨(H4.out.2.2.key x hx).sl, by
      obtain ⟨j, hj, rfl⟩ := List.getElem_of_mem hx
      have hj1 : j < ks.length := by rw [HR.out.2.1]; exact hj
      have q3 := (HR.out.2.2 j hj1).2.2.1
      have g2 : ks'.getD j kv0 = ks'[j] := by simp [List.getD_eq_getElem?_getD, hj]
      rw [g2] at q3
      rw [← q3]
      exact (HA.out.2.2.2.2.2.2.1.key _ (getD_mem_lt kv0 hj1)).2.1⟩⟩
    go_wp2_with fail
    refine (rKept_any w4 r oK na cK oL nb cL ks' ls H4.out.2.2.rd HRK.out).mono ?_
    rintro e w5 ⟨o5, n5, c5, rfl, h5⟩
    obtain ⟨k5, hn5, hk5, he5⟩ := h5.out
    have hkd := load_kd HOK.out (ksEq_trans HR.out.2 he5)
    have H5 : Hid (Kd (loadS ks ls) k5 o5 n5 c5 w5 ∧ Kd (loadS ks ls) k4 o4 n4 c4 w5 ∧ Ow w w5 p (loadS ks ls) ks.length no ∧ RO (fun b => w1.heap.size ≤ b) w5 r oK na cK oL nb cL ks' ls) := ⟨⟨hn5, hk5.own, fun x hx => (hk5.key x hx).1, hkd.1, hkd.2.1, hkd.2.2, H4.out.2.1.ok, by
      have h1 := HR.out.2.1
      have h2 := he5.1
      have h3 := HA.out.2.2.1
      omega⟩, H4.out.1.keepsN hk5.keep, H4.out.2.1.go hk5.keep, H4.out.2.2.keepsN hk5.keep⟩
    clear h5 hn5 hk5 he5 hkd H4 HRK
    go_wp2_with fail
    refine (sameKd (fun _ => rfl) H5.out.2.1 H5.out.1).mono ?_
    rintro e w6 ⟨rfl, hk6⟩
    have H6 : Hid (Ow w w6 p (loadS ks ls) ks.length no ∧ RO (fun b => w1.heap.size ≤ b) w6 r oK na cK oL nb cL ks' ls) := ⟨H5.out.2.2.1.go hk6, H5.out.2.2.2.keepsN hk6⟩
    clear hk6 H5
    go_wp2_with fail
    refine (H6.out.1.lastsK HA.out.2.2.1).mono ?_
    rintro e w7 ⟨o7, n7, c7, k7, rfl, h7⟩
    have H7 : Hid (Ld (loadS ks ls) k7 o7 n7 c7 w7 ∧ Ow w w7 p (loadS ks ls) ks.length no ∧ RO (fun b => w1.heap.size ≤ b) w7 r oK na cK oL nb cL ks' ls) := ⟨h7.out.1, H6.out.1.go h7.out.2.2.1, H6.out.2.keepsN h7.out.2.2.1⟩
    clear h7 H6
    go_wp2_with fail
    refine (rLasts_any w7 r oK na cK oL nb cL ks' ls H7.out.2.2.rd).mono ?_
    rintro e w8 ⟨o8, n8, c8, rfl, h8⟩
    have H8 : Hid (Ld (loadS ks ls) ls o8 n8 c8 w8 ∧ Ld (loadS ks ls) k7 o7 n7 c7 w8 ∧ Keeps no w w8) := ⟨⟨h8.out.1, h8.out.2.1, load_ld HOK.out, H7.out.2.1.ok, HA.out.2.2.2.1⟩, H7.out.1.keepsN h8.out.2.2.2, H7.out.2.1.keep.trans h8.out.2.2.2⟩
    clear h8 H7
    go_wp2_with fail
    refine (sameLd (fun _ => rfl) H8.out.2.1 H8.out.1).mono ?_
    rintro e w9 ⟨rfl, hk9⟩
    have H9 : Hid (Keeps no w w9) := H8.out.2.2.trans hk9
    clear hk9 H8
    go_wp2_with fail
    go_ret
    exact ⟨rfl, H9.out⟩
end Go.Proofs.YtkoaiibjahlnmaaGreat

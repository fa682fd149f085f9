import Derived.Test.YtgamhblkgojapaaGreatDoorGJ7
import Derived.Test.YtgamhblkgojapaaGreatDoorGT1
import Derived.Deep.RegionHeldLaw
import Derived.Deep.Light
/- WalPlays: a log opened anew -/
namespace Go.Proofs.YtgamhblkgojapaaGreatDoor
open Go.RowKit Pk Dk
set_option linter.unusedVariables false
set_option linter.unusedSimpArgs false

set_option maxRecDepth 10000 in
set_option maxHeartbeats 4000000 in
theorem opnW : OpnW := by
  intro w nm len0 cap0 l0 HNM hlb Q_j10 w1 HK1 HT w2 p w3 r F0 G0 HB0 w4 q o m c vs w5 u o' m' c' vs' K_j33 a_j34 wr u4 u15 u16 u17 u18 u19 u20 u21 u51 u52 u53 u54 u55 u56 u57 u58 u59 u60 u61 u62 u63 u64 u65 u66 u67 u68 u69 u70 u71 u72 u73 u74 u75 u76 u77 u78 u79 u80 u81 u82 u83 u84 u85 u86 u87 u88 u89 u90 u91 u92 u93 u94 u95 u96 u97 u98 u99 u100 u101 u102 u103 u104 u105 u106 u107 u108 u109 u110 u111 u112 u113 u114 u115 u116 u117 u118 u119 u120 u121 u122 u123 u124 u125 u126 u127 u128 u129 u130 u131 u132 u133 u134 u135 u136 u137 u138 u139 u140 u141 u142 u143 u144 u145 u146 u147 u148 u149 u150 u151 u152 u153 u154 u155 u156 u157 u158 u159 u160 u161 u162 u163 u164 u165 u166 u167 u168 u169 u170 u171 u172 u173 u174 u175 u176 u177 u178 u179 u180 u181 u182 u183 u184 u185 u186 u187 u188 u189 u190 u191 u192 u193 u194 u195 u196 u197 u198 u199 u200 u201 u202 u203 u204 u205 u206 u207 u208 u209 u210 u211 u212 u213 u214 I s F G L hI hlt b off rr bs HS0 Q_j220 K_j221 a_j222 K_j223 a_j224 wb BX HFL HBW HPb HSz HLb rv zn zk nmo ob nb cb x1 x2 x3 x4 x5 x6 x7 x8 J_j247 K_j248 a_j249 HBX HRb HRW x0 a_j254
  go_wp2_with fail
  refine (up_any wb p F s HPb.out.a).mono ?_
  rintro e w5 ⟨rfl, h5, hk5⟩
  have HP5 : Hid (Pl w1 w5 p r F G (up s) s) := HPb.out.sameA h5 hk5
  have HL5 : Hid (LgO w1 w5 p r F G nm (1099511627776 + I * 1048584) L) := HLb.out.of (Nat.le_refl _) (fun q u k h => h.sameA hk5)
  have HZ5 : Hid (wb.heap.size ≤ w5.heap.size) := hk5.size
  clear x0 x1 x2 x3 x4 x5 x6 x7 x8 h5 hk5
  go_wp2_with fail
  refine (rup_any w5 r G s HP5.out.b).mono ?_
  rintro e w6 ⟨rfl, h6, hk6⟩
  have HPX : Hid (Pl w1 w6 p r F G (up s) (up s)) := HP5.out.sameB h6 hk6
  have HL6 : Hid (LgO w1 w6 p r F G nm (1099511627776 + (I + 1) * 1048584) L) := HL5.out.of (by omega) (fun q u k h => h.sameB hk6)
  have HZ6 : Hid (BX < w6.heap.size) := by have := HZ5.out; have := hk6.size; have := lt_of_block HBX.out; exact (by omega : BX < w6.heap.size)
  have HRD : Hid ((readB nm.data.toList (tick (up s))).length ≤ 1099511627776) := Nat.le_trans (read_siz HSz.out.1.up) (by have := HSz.out.2; omega)
  clear h6 hk6 HP5 HL5 HZ5
  go_wp2_with fail
  refine (Open_any w6 p F (up s) nm HPX.out.a (by have := HNM.out; omega) (HT.out.keepsN HPX.out.kp) (fun h => by have := HPX.out.fn 0 h; have := tab_pos HT.out; omega) HRD.out).mono ?_
  rintro e w7 (⟨s', E, rfl, HO, hE, HD, HK⟩ | ⟨s', q', o', m', c', k, vs, rs, rfl, HO, HM, HQ, HSc, hk, hm, HD, HK⟩)
  · have HP7 : Hid (Pl w1 w7 p r F G s' (up s)) := HPX.out.sameA HD.out HK.out
    have HL7 : Hid (LgO w1 w7 p r F G nm (1099511627776 + (I + 1) * 1048584) L) := HL6.out.of (Nat.le_refl _) (fun q u k h => h.sameA HK.out)
    clear HD HK HL6
    go_wp2_with fail
    refine (rOpen_any w7 r G (up s) nm HP7.out.b HRD.out).mono ?_
    rintro e w8 (⟨t', E', rfl, HO', hE', HD, HK⟩ | ⟨t', u', o'', m'', c'', k, vs, rs, rfl, HO', -, -, -, -, -, -, -⟩)
    · obtain ⟨rfl, rfl, -, -⟩ := HO.out.one HO'.out
      have HP8 : Hid (Pl w1 w8 p r F G s' s') := HP7.out.sameB HD.out HK.out
      have HL8 : Hid (LgO w1 w8 p r F G nm (1099511627776 + (I + 1) * 1048584) L) := HL7.out.of (Nat.le_refl _) (fun q u k h => h.sameB HK.out)
      have hE0 : ¬ (E : Int) = 0 := hE
      clear HD HK HP7 HL7 HO' hE hE'
      go_wp2_with fail
      refine (sameRecords_any w8 none 0 0 [] [] none 0 0 [] [] rfl rfl (by decide) (by decide) ⟨own_nil_sl _, rfl, fun j hj => by simp at hj⟩ ⟨own_nil_sl _, rfl, fun j hj => by simp at hj⟩).mono ?_
      rintro e w9 ⟨⟨B, rfl, hB⟩, hk9⟩
      obtain rfl : B = true := hB.out.2 rfl
      have HP9 : Hid (Pl w1 w9 p r F G s' s') := HP8.out.beside hk9
      have HL9 : Hid (LgO w1 w9 p r F G nm (1099511627776 + (I + 1) * 1048584) L) := HL8.out.of (Nat.le_refl _) (fun q u k h => h.beside hk9)
      clear hB hk9 HP8 HL8
      go_wp2_with fail
      go_meet
      go_light
      exact ⟨s', F, G, L, rfl, rfl, ⟨HP9.out, (Siz.opn HSz.out.1.up HO.out).mono (by omega)⟩, HL9⟩
    · exact absurd (HO.out.one HO'.out).2.1 hE
  · have HP7 : Hid (Pl w1 w7 p r F G s' (up s)) := HPX.out.sameA HD.out HK.out
    have HQ7 : Hid (IsL w7 q' p nm k ∧ w6.heap.size ≤ q') := HQ.out
    have HK7 : Hid (w6.heap.size ≤ w7.heap.size) := HK.out.size
    clear HD HK HL6 HQ
    go_wp2_with fail
    refine (rOpen_any w7 r G (up s) nm HP7.out.b HRD.out).mono ?_
    rintro e w8 (⟨t', E', rfl, HO', hE', -, -⟩ | ⟨t', u', o'', m'', c'', k', vs', rs', rfl, HO', HM', HU, HSc', hk', hm', HD, HK⟩)
    · exact absurd (HO'.out.one HO.out).2.1 hE'
    · obtain ⟨rfl, -, rfl, rfl⟩ := HO.out.one HO'.out
      have HP8 : Hid (Pl w1 w8 p r F G s' s') := HP7.out.sameB HD.out HK.out
      have HG8 : Hid (Lg w1 w8 p r F G nm q' u' k k) := by
        have h1 := HQ7.out
        have h2 := HU.out
        have h3 := HFL.out
        have h4 := HZ6.out
        have h5 := HPX.out.kp.size
        have h6 := HK7.out
        exact ⟨h1.1.keeps HK.out (fun h => by have := h3 q' (.inr h); omega), h2.1, fun h => by have := h3 q' (.inl h); omega, fun h => by have := h3 q' (.inr h); omega, fun h => by have := h3 u' (.inl h); omega, fun h => by have := h3 u' (.inr h); omega, by omega, by omega⟩
      have HS8 : Hid (RsIn w8 o' c' vs rs) := (HSc.out.keepsF HK.out (fun j hj => by have := HFL.out j (.inr hj); have := HZ6.out; omega)).rsIn
      have HS9 : Hid (RsIn w8 o'' c'' vs' rs) := HSc'.out.rsIn
      clear HD HK HP7 HQ7 HU HSc HSc' HO'
      go_wp2_with fail
      refine (sameRecords_any w8 o' m' c' vs rs o'' m'' c'' vs' rs HM.out HM'.out hm hm' HS8.out HS9.out).mono ?_
      rintro e w9 ⟨⟨B, rfl, hB⟩, hk9⟩
      obtain rfl : B = true := hB.out.2 rfl
      have HP9 : Hid (Pl w1 w9 p r F G s' s') := HP8.out.beside hk9
      have HG9 : Hid (Lg w1 w9 p r F G nm q' u' k k) := HG8.out.beside hk9
      clear hB hk9 HP8 HG8 HS8 HS9
      go_wp2_with fail
      refine (LogSize_any w9 q' p nm k HG9.out.a).mono ?_
      rintro e w' ⟨rfl, hw⟩
      subst w'
      go_wp2_with fail
      refine (rLogSize_any w9 u' r nm k HG9.out.b).mono ?_
      rintro e w' ⟨rfl, hw⟩
      subst w'
      go_wp2_with fail
      refine (LogName_any w9 q' p nm k HG9.out.a).mono ?_
      rintro e w' ⟨rfl, hw⟩
      subst w'
      go_wp2_with fail
      refine (rLogName_any w9 u' r nm k HG9.out.b).mono ?_
      rintro e w' ⟨rfl, hw⟩
      subst w'
      go_wp2_with fail
      go_meet
      go_light
      exact ⟨s', F, G, some (q', u', k), rfl, rfl, ⟨HP9.out, (Siz.opn HSz.out.1.up HO.out).mono (by omega)⟩, ⟨HG9.out, by omega⟩⟩
end Go.Proofs.YtgamhblkgojapaaGreatDoor
/- WalPlays: bytes appended to a file -/
namespace Go.Proofs.YtgamhblkgojapaaGreatDoor
open Go.RowKit Pk Dk
set_option linter.unusedVariables false
set_option linter.unusedSimpArgs false

set_option maxRecDepth 10000 in
set_option maxHeartbeats 4000000 in
theorem rawW : RawW := by
  intro w nm len0 cap0 l0 HNM hlb Q_j10 w1 HK1 HT w2 p w3 r F0 G0 HB0 w4 q o m c vs w5 u o' m' c' vs' K_j33 a_j34 wr u4 u15 u16 u17 u18 u19 u20 u21 u51 u52 u53 u54 u55 u56 u57 u58 u59 u60 u61 u62 u63 u64 u65 u66 u67 u68 u69 u70 u71 u72 u73 u74 u75 u76 u77 u78 u79 u80 u81 u82 u83 u84 u85 u86 u87 u88 u89 u90 u91 u92 u93 u94 u95 u96 u97 u98 u99 u100 u101 u102 u103 u104 u105 u106 u107 u108 u109 u110 u111 u112 u113 u114 u115 u116 u117 u118 u119 u120 u121 u122 u123 u124 u125 u126 u127 u128 u129 u130 u131 u132 u133 u134 u135 u136 u137 u138 u139 u140 u141 u142 u143 u144 u145 u146 u147 u148 u149 u150 u151 u152 u153 u154 u155 u156 u157 u158 u159 u160 u161 u162 u163 u164 u165 u166 u167 u168 u169 u170 u171 u172 u173 u174 u175 u176 u177 u178 u179 u180 u181 u182 u183 u184 u185 u186 u187 u188 u189 u190 u191 u192 u193 u194 u195 u196 u197 u198 u199 u200 u201 u202 u203 u204 u205 u206 u207 u208 u209 u210 u211 u212 u213 u214 I s F G L hI hlt b off rr bs HS0 Q_j220 K_j221 a_j222 K_j223 a_j224 wb BX HFL HBW HPb HSz HLb rv zn zk nmo ob nb cb x1 x2 x3 x4 x5 x6 x7 x8 J_j247 K_j248 a_j249 HBX HRb HRW x0 a_j254
  have HNO : Hid (nmo.size ≤ maxLen) := by have h : nmo.size ≤ 140737488351232 := HRb.out.1.nm; unfold maxLen; exact (by omega : nmo.size ≤ 9223372036854775807)
  have HNB2 : Hid (nb = bs.length) := HRb.out.1.nb
  have HNL : Hid (ob = none → cb = 0) := HRb.out.1.sl.nil
  have HLE : Hid (bs.length ≤ 140737488355328) := by have h := HRb.out.2; exact (by omega : bs.length ≤ 140737488355328)
  have HFT : Hid (∀ f, find nmo.data.toList (tick s).fs = some f → f.bs.length + bs.length ≤ 140737488355328) := fun f hf => (by have h1 := HSz.out.1.tick.find hf; have h2 := HSz.out.2; have h3 := HRb.out.2; omega)
  have HB1 : Hid ((([] : List UInt8).length + bs.length) * BU.nb ≤ 140737488355328) := by have h := HRb.out.2; show (0 + bs.length) * 1 ≤ 140737488355328; omega
  have HB2 : Hid (([] : List UInt8).length + bs.length ≤ 140737488355328) := by have h := HRb.out.2; show 0 + bs.length ≤ 140737488355328; omega
  have HST : Hid (∀ X, Keeps (fun k => F k ∨ G k) wb X → X.cell? ⟨BX, 7, none⟩ = some (.string nmo) ∧ X.cell? ⟨BX, 8, none⟩ = some (.slice ob nb cb)) := fun X hk => ⟨hk.cell x7 (fun h => by have := HFL.out BX h; omega), hk.cell x8 (fun h => by have := HFL.out BX h; omega)⟩
  have K0 : Hid (Keeps (fun k => F k ∨ G k) wb wb.drew) := (Keeps.refl _ wb).drew
  have K1 : Hid (Keeps (fun k => F k ∨ G k) wb (wb.alloc (.cells #[] 5)).drew) := ((Keeps.refl _ wb).alloc _).drew
  have HOE : Hid (Own BU (wb.alloc (.cells #[] 5)).drew (some ⟨wb.heap.size, 0, none⟩) 0 []) := own_empty okU wb
  have HRX : Hid (Row BU (wb.alloc (.cells #[] 5)).drew ob bs) := HRb.out.1.sl.row.keepsN (((Keeps.refl no wb).alloc _).drew)
  go_wp2_with fail
  refine wp_region_held_drew (S := (fun X => X.cell? ⟨BX, 7, none⟩ = some (.string nmo) ∧ X.cell? ⟨BX, 8, none⟩ = some (.slice ob nb cb))) (by kernel_rfl) ?_ (fun hHeld => ?_)
  · (first | exact HST.out _ K4.out | exact HST.out _ K3.out | exact HST.out _ K2.out | exact HST.out _ K1.out | exact HST.out _ K0.out)
  refine wpAnyH_take (i := 0) (v := ?_) (by simp only [List.getElem?_toArray, List.getElem?_cons_succ, List.getElem?_cons_zero]; rfl) (by kernel_rfl) (by kernel_rfl) (by kernel_rfl) (by exact fun _ _ _ h => h) (Or.inl ⟨by rfl, ?_⟩) (by assumption) ?_
  rotate_left
  · (intro _ hSw; (try dsimp only at hSw); go_simp; (try with_reducible rfl))
  try simp only [Act.put, List.setIfInBounds_toArray, List.set_cons_zero, List.set_cons_succ]
  refine wpAnyH_take (i := 1) (v := ?_) (by simp only [List.getElem?_toArray, List.getElem?_cons_succ, List.getElem?_cons_zero]; rfl) (by kernel_rfl) (by kernel_rfl) (by kernel_rfl) (by exact fun _ _ _ h => h) (Or.inl ⟨by rfl, ?_⟩) (by assumption) ?_
  rotate_left
  · (intro _ hSw; (try dsimp only at hSw); go_simp; (try with_reducible rfl))
  try simp only [Act.put, List.setIfInBounds_toArray, List.set_cons_zero, List.set_cons_succ]
  refine wpAnyH_take (i := 2) (v := ?_) (by simp only [List.getElem?_toArray, List.getElem?_cons_succ, List.getElem?_cons_zero]; rfl) (by kernel_rfl) (by kernel_rfl) (by kernel_rfl) (by exact fun _ _ _ h => h) (Or.inl ⟨by rfl, ?_⟩) (by assumption) ?_
  rotate_left
  · (intro _ hSw; (try dsimp only at hSw); go_simp; (try with_reducible rfl))
  try simp only [Act.put, List.setIfInBounds_toArray, List.set_cons_zero, List.set_cons_succ]
  refine wpAnyH_take (i := 4) (v := ?_) (by simp only [List.getElem?_toArray, List.getElem?_cons_succ, List.getElem?_cons_zero]; rfl) (by kernel_rfl) (by kernel_rfl) (by kernel_rfl) (by exact fun _ _ _ h => h) (Or.inl ⟨by rfl, ?_⟩) (by assumption) ?_
  rotate_left
  · (intro _ hSw; (try dsimp only at hSw); go_simp; (try with_reducible rfl))
  try simp only [Act.put, List.setIfInBounds_toArray, List.set_cons_zero, List.set_cons_succ]
  refine wpAnyH_take (i := 5) (v := ?_) (by simp only [List.getElem?_toArray, List.getElem?_cons_succ, List.getElem?_cons_zero]; rfl) (by kernel_rfl) (by kernel_rfl) (by kernel_rfl) (by exact fun _ _ _ h => h) (Or.inl ⟨by rfl, ?_⟩) (by assumption) ?_
  rotate_left
  · (intro _ hSw; (try dsimp only at hSw); go_simp; (try with_reducible rfl))
  try simp only [Act.put, List.setIfInBounds_toArray, List.set_cons_zero, List.set_cons_succ]
  refine wpAnyH_take (i := 8) (v := ?_) (by simp only [List.getElem?_toArray, List.getElem?_cons_succ, List.getElem?_cons_zero]; rfl) (by kernel_rfl) (by kernel_rfl) (by kernel_rfl) (by exact fun _ _ _ h => h) (Or.inl ⟨by rfl, ?_⟩) (by assumption) ?_
  rotate_left
  · (intro _ hSw; (try dsimp only at hSw); go_simp; (try with_reducible rfl))
  try simp only [Act.put, List.setIfInBounds_toArray, List.set_cons_zero, List.set_cons_succ]
  refine wpAnyH_take (i := 9) (v := ?_) (by simp only [List.getElem?_toArray, List.getElem?_cons_succ, List.getElem?_cons_zero]; rfl) (by kernel_rfl) (by kernel_rfl) (by kernel_rfl) (by exact fun _ _ _ h => h) (Or.inl ⟨by rfl, ?_⟩) (by assumption) ?_
  rotate_left
  · (intro _ hSw; (try dsimp only at hSw); go_simp; (try with_reducible rfl))
  try simp only [Act.put, List.setIfInBounds_toArray, List.set_cons_zero, List.set_cons_succ]
  refine wpAnyH_take (i := 10) (v := ?_) (by simp only [List.getElem?_toArray, List.getElem?_cons_succ, List.getElem?_cons_zero]; rfl) (by kernel_rfl) (by kernel_rfl) (by kernel_rfl) (by exact fun _ _ _ h => h) (Or.inl ⟨by rfl, ?_⟩) (by assumption) ?_
  rotate_left
  · (intro _ hSw; (try dsimp only at hSw); go_simp; (try with_reducible rfl))
  try simp only [Act.put, List.setIfInBounds_toArray, List.set_cons_zero, List.set_cons_succ]
  refine wpAnyH_take (i := 11) (v := ?_) (by simp only [List.getElem?_toArray, List.getElem?_cons_succ, List.getElem?_cons_zero]; rfl) (by kernel_rfl) (by kernel_rfl) (by kernel_rfl) (by exact fun _ _ _ h => h) (Or.inl ⟨by rfl, ?_⟩) (by assumption) ?_
  rotate_left
  · (intro _ hSw; (try dsimp only at hSw); go_simp; (try with_reducible rfl))
  try simp only [Act.put, List.setIfInBounds_toArray, List.set_cons_zero, List.set_cons_succ]
  refine wpAnyH_take (i := 12) (v := ?_) (by simp only [List.getElem?_toArray, List.getElem?_cons_succ, List.getElem?_cons_zero]; rfl) (by kernel_rfl) (by kernel_rfl) (by kernel_rfl) (by exact fun _ _ _ h => h) (Or.inl ⟨by rfl, ?_⟩) (by assumption) ?_
  rotate_left
  · (intro _ hSw; (try dsimp only at hSw); go_simp; (try with_reducible rfl))
  try simp only [Act.put, List.setIfInBounds_toArray, List.set_cons_zero, List.set_cons_succ]
  refine wpAnyH_ready (rs := [3]) (by kernel_rfl) (by simp) ?_
  refine AllReadyH.cons (by simp only [List.getElem?_toArray, List.getElem?_cons_succ, List.getElem?_cons_zero]; rfl) (fun Kq hKq => ?_) AllReadyH.nil
  go_simp
  refine hKq.out _ _ ?_ (fun hHeldN => ?_)
  · (first | exact HST.out _ K4.out | exact HST.out _ K3.out | exact HST.out _ K2.out | exact HST.out _ K1.out | exact HST.out _ K0.out)
  clear hKq Kq hHeld
  have hHeld := hHeldN
  clear hHeldN
  refine wpAnyH_ready (rs := [6]) (by kernel_rfl) (by simp) ?_
  refine AllReadyH.cons (by simp only [List.getElem?_toArray, List.getElem?_cons_succ, List.getElem?_cons_zero]; rfl) (fun Kq hKq => ?_) AllReadyH.nil
  (refine step_appW okU rfl (.tmp 140) (.tmp 142) rfl (some ⟨wb.heap.size, 0, none⟩) 0 0 [] rfl rfl HOE.out ob nb cb bs rfl HNB2.out HNL.out HRX.out HB1.out HB2.out ?_; intro o2 c2 w2 ho2 hap2; have HN2 : Hid (New wb o2 ∧ Keeps no wb w2) := hap2.new (w0 := wb) (new_fresh wb wb.heap.size (Nat.le_refl _) 0) (((Keeps.refl no wb).alloc _).drew); have K2 : Hid (Keeps (fun k => F k ∨ G k) wb w2) := HN2.out.2.of_no; have HO2 : Hid (Own BU w2 o2 c2 bs) := ho2; clear ho2 hap2; simp only [Nat.zero_add])
  refine hKq.out _ _ ?_ (fun hHeldN => ?_)
  · (first | exact HST.out _ K4.out | exact HST.out _ K3.out | exact HST.out _ K2.out | exact HST.out _ K1.out | exact HST.out _ K0.out)
  clear hKq Kq hHeld
  have hHeld := hHeldN
  clear hHeldN
  refine wpAnyH_ready (rs := [7]) (by kernel_rfl) (by simp) ?_
  refine AllReadyH.cons (by simp only [List.getElem?_toArray, List.getElem?_cons_succ, List.getElem?_cons_zero]; rfl) (fun Kq hKq => ?_) AllReadyH.nil
  (go_simp; refine (append_any w2 p F s nmo o2 nb c2 bs (HPb.out.a.keepsN HN2.out.2) HNO.out HNB2.out HO2.out.sl (fun k hk h => by have := HN2.out.1 k hk; have := HPb.out.a.lt k h; omega) HLE.out HFT.out).mono ?_; rintro e w3 ⟨rfl, h3, hk3⟩; have HP3 : Hid (Pl w1 w3 p r (grow F w2 w3) G (counted s (appendOn nmo.data.toList bs)).1 s) := (HPb.out.beside HN2.out.2).growA (q := BX) h3 (hk3.mono (fun k h => .inl h)) (fun h => by have := HFL.out BX (.inr h); omega) HBW.out.2; have HL3 : Hid (LgO w1 w3 p r (grow F w2 w3) G nm (1099511627776 + I * 1048584) L) := HLb.out.of (Nat.le_refl _) (fun q u k h => (h.beside HN2.out.2).growA' hk3); have K3 : Hid (Keeps (fun k => F k ∨ G k) wb w3) := K2.out.trans (hk3.mono (fun k h => .inl h)); clear h3 hk3; have HBF : Hid (¬ grow F w2 w3 BX) := grow_no (fun h => by have := HFL.out BX (.inl h); omega) (by have := lt_of_block HBX.out; have := HN2.out.2.size; omega); generalize grow F w2 w3 = F' at HP3 HL3 HBF)
  refine hKq.out _ _ ?_ (fun hHeldN => ?_)
  · (first | exact HST.out _ K4.out | exact HST.out _ K3.out | exact HST.out _ K2.out | exact HST.out _ K1.out | exact HST.out _ K0.out)
  clear hKq Kq hHeld
  have hHeld := hHeldN
  clear hHeldN
  refine wpAnyH_ready (rs := [13]) (by kernel_rfl) (by simp) ?_
  refine AllReadyH.cons (by simp only [List.getElem?_toArray, List.getElem?_cons_succ, List.getElem?_cons_zero]; rfl) (fun Kq hKq => ?_) AllReadyH.nil
  (go_simp; refine (rappend_any w3 r G s nmo ob nb cb bs HP3.out.b HNB2.out HNL.out (fun w' hk' => HRW.out.1.sl.row.keepsN ((HK1.out.trans HP3.out.kp).then hk' (fun k h => .inr (by have := HP3.out.gn k h; have := HK1.out.size; omega)))) HLE.out HFT.out).mono ?_; rintro e w4 ⟨rfl, h4, hk4⟩; have HP4 : Hid (Pl w1 w4 p r F' (grow G w3 w4) (counted s (appendOn nmo.data.toList bs)).1 (counted s (appendOn nmo.data.toList bs)).1) := HP3.out.growB (q := BX) h4 (hk4.mono (fun k h => .inl h)) HBF.out HBW.out.2; have HL4 : Hid (LgO w1 w4 p r F' (grow G w3 w4) nm (1099511627776 + (I + 1) * 1048584) L) := HL3.out.of (by omega) (fun q u k h => h.growB' hk4); have K4 : Hid (Keeps (fun k => F k ∨ G k) wb w4) := K3.out.trans (hk4.mono (fun k h => .inr h)); clear h4 hk4; generalize grow G w3 w4 = G' at HP4 HL4)
  refine hKq.out _ _ ?_ (fun hHeldN => ?_)
  · (first | exact HST.out _ K4.out | exact HST.out _ K3.out | exact HST.out _ K2.out | exact HST.out _ K1.out | exact HST.out _ K0.out)
  clear hKq Kq hHeld
  have hHeld := hHeldN
  clear hHeldN
  refine wpAnyH_take (i := 14) (v := ?_) (by simp only [List.getElem?_toArray, List.getElem?_cons_succ, List.getElem?_cons_zero]; rfl) (by kernel_rfl) (by kernel_rfl) (by kernel_rfl) (by exact fun _ _ _ h => h) (Or.inl ⟨by rfl, ?_⟩) (by assumption) ?_
  rotate_left
  · (intro _ hSw; (try dsimp only at hSw); go_simp; (try with_reducible rfl))
  try simp only [Act.put, List.setIfInBounds_toArray, List.set_cons_zero, List.set_cons_succ]
  refine wpAnyH_done (by kernel_rfl) ?_ _
  clear hHeld
  have HSA : Hid (Siz ((I + 1) * 1048584) (counted s (appendOn nmo.data.toList bs)).1) := (HSz.out.1.appc nmo.data.toList bs).mono (by have := HRb.out.2; omega)
  generalize counted s (appendOn nmo.data.toList bs) = S1 at HP4 HSA ⊢
  go_wp2_with fail
  go_meet
  go_light
  exact ⟨S1.1, F', G', L, rfl, rfl, ⟨HP4.out, HSA.out⟩, HL4⟩
end Go.Proofs.YtgamhblkgojapaaGreatDoor
/- WalPlays: a record appended -/
namespace Go.Proofs.YtgamhblkgojapaaGreatDoor
open Go.RowKit Pk Dk
set_option linter.unusedVariables false
set_option linter.unusedSimpArgs false

theorem fit_apd {n : Nm} {s : St} {M : Nat} {rr : Rec} (h : Siz M s) (hM : M ≤ 600000000000) : encE rr = 0 → ∀ f, find n (tick s).fs = some f → f.bs.length + (enc rr).length ≤ 140737488355328 := fun he f hf => by
  have h1 := h.tick.find hf
  have h2 := (encE_zero he).2.1
  rw [enc_length]
  omega
theorem kk_eq (I : Nat) : 1099511627776 + (I + 1) * 1048584 = 1099511627776 + I * 1048584 + 1048584 := by rw [Nat.succ_mul, Nat.add_assoc]
theorem apd_kk {n : Nm} {rr : Rec} {s s' : St} {ER : Int} {k I : Nat} (hA : apd n rr s = (s', ER)) (hk : k ≤ 1099511627776 + I * 1048584) : (if ER = 0 then k + (enc rr).length else k) ≤ 1099511627776 + (I + 1) * 1048584 := by
  rw [kk_eq]
  generalize 1099511627776 + I * 1048584 = M at hk ⊢
  split
  · rename_i h0
    have hE : encE rr = 0 := by
      by_cases hE : encE rr = 0
      · exact hE
      · rw [apd_bad hE] at hA
        injection hA with _ h2
        rw [← h2] at h0
        omega
    have h2 := (encE_zero hE).2.1
    rw [enc_length]
    omega
  · omega
theorem kk_le {k I : Nat} (h : k ≤ 1099511627776 + I * 1048584) (h2 : I * 1048584 ≤ 600000000000) : (k : Int) ≤ 140737488355328 := by
  generalize I * 1048584 = X at h h2
  omega
theorem kk_up {k I : Nat} (h : k ≤ 1099511627776 + I * 1048584) : k ≤ 1099511627776 + (I + 1) * 1048584 := by
  rw [kk_eq]
  exact Nat.le_trans h (Nat.le_add_right _ _)

set_option maxRecDepth 10000 in
set_option maxHeartbeats 4000000 in
theorem appW : AppW := by
  intro w nm len0 cap0 l0 HNM hlb Q_j10 w1 HK1 HT w2 p w3 r F0 G0 HB0 w4 q o m c vs w5 u o' m' c' vs' K_j33 a_j34 wr u4 u15 u16 u17 u18 u19 u20 u21 u51 u52 u53 u54 u55 u56 u57 u58 u59 u60 u61 u62 u63 u64 u65 u66 u67 u68 u69 u70 u71 u72 u73 u74 u75 u76 u77 u78 u79 u80 u81 u82 u83 u84 u85 u86 u87 u88 u89 u90 u91 u92 u93 u94 u95 u96 u97 u98 u99 u100 u101 u102 u103 u104 u105 u106 u107 u108 u109 u110 u111 u112 u113 u114 u115 u116 u117 u118 u119 u120 u121 u122 u123 u124 u125 u126 u127 u128 u129 u130 u131 u132 u133 u134 u135 u136 u137 u138 u139 u140 u141 u142 u143 u144 u145 u146 u147 u148 u149 u150 u151 u152 u153 u154 u155 u156 u157 u158 u159 u160 u161 u162 u163 u164 u165 u166 u167 u168 u169 u170 u171 u172 u173 u174 u175 u176 u177 u178 u179 u180 u181 u182 u183 u184 u185 u186 u187 u188 u189 u190 u191 u192 u193 u194 u195 u196 u197 u198 u199 u200 u201 u202 u203 u204 u205 u206 u207 u208 u209 u210 u211 u212 u213 u214 I s F G L hI hlt b off rr bs HS0 Q_j220 K_j221 a_j222 K_j223 a_j224 wb BX HFL HBW HPb HSz HLb rv zn zk nmo ob nb cb x1 x2 x3 x4 x5 x6 x7 x8 J_j247 K_j248 a_j249 HBX HRb HRW x0 a_j254
  cases L with
  | none =>
    simp only [lP, lR]
    go_wp2_with fail
    go_meet
    go_light
    exact ⟨s, F, G, none, rfl, rfl, ⟨HPb.out, HSz.out.1.mono (by omega)⟩, trivial⟩
  | some x =>
    obtain ⟨q', u', k⟩ := x
    simp only [lP, lR]
    have HLg : Hid (Lg w1 wb p r F G nm q' u' k k ∧ k ≤ 1099511627776 + I * 1048584) := HLb.out
    clear HLb
    obtain ⟨OF, hOF⟩ : ∃ OF, OF = s.off := ⟨_, rfl⟩
    have HOF : Hid (OF = s.off) := hOF
    clear hOF
    go_wp2_with fail
    refine (down_any wb p F s HPb.out.a).mono ?_
    rintro e w' ⟨rfl, hw⟩
    subst w'
    rw [← HOF.out]
    cases OF
    · obtain ⟨pr, hpr⟩ : ∃ pr, apd nm.data.toList rr s = pr := ⟨_, rfl⟩
      obtain ⟨s', ER⟩ := pr
      have HA : Hid (apd nm.data.toList rr s = (s', ER)) := hpr
      have HSA : Hid (Siz ((I + 1) * 1048584) s') := by
        have h := (HSz.out.1.apd nm.data.toList rr).mono (M' := (I + 1) * 1048584) (by omega)
        rw [HA.out] at h
        exact h
      obtain ⟨k', hk'⟩ : ∃ k', k' = if ER = 0 then k + (enc rr).length else k := ⟨_, rfl⟩
      have HKK : Hid ((if ER = 0 then k + (enc rr).length else k) = k') := hk'.symm
      have HFT : Hid (encE rr = 0 → ∀ f, find nm.data.toList (tick s).fs = some f → f.bs.length + (enc rr).length ≤ 140737488355328) := fit_apd HSz.out.1 HSz.out.2
      have HKL : Hid (k' ≤ 1099511627776 + (I + 1) * 1048584) := by rw [hk']; exact apd_kk HA.out HLg.out.2
      have hkb : (k : Int) ≤ 140737488355328 := kk_le HLg.out.2 HSz.out.2
      clear hpr hk'
      obtain ⟨FG, hFG⟩ : ∃ FG : Nat → Prop, FG = fun j => F j ∨ G j ∨ j = q' ∨ j = u' := ⟨_, rfl⟩
      have HFG : Hid ((∀ j, F j → FG j) ∧ (∀ j, G j → FG j) ∧ (∀ j, j = q' → FG j) ∧ (∀ j, j = u' → FG j)) := by
        rw [hFG]
        exact ⟨fun j h => .inl h, fun j h => .inr (.inl h), fun j h => .inr (.inr (.inl h)), fun j h => .inr (.inr (.inr h))⟩
      have HNB : Hid (¬ FG BX) := by
        rw [hFG]
        rintro (h | h | h | h)
        · have := HFL.out BX (.inl h); omega
        · have := HFL.out BX (.inr h); omega
        · exact absurd HLg.out.1.a.blk (by rw [← h, HBX.out]; intro e; injection e with e; injection e with _ e _; exact absurd e (by decide))
        · exact absurd HLg.out.1.b.blk (by rw [← h, HBX.out]; intro e; injection e with e; injection e with _ e _; exact absurd e (by decide))
      clear hFG
      have HST : Hid (∀ X, Keeps FG wb X → X.cell? ⟨BX, 1, none⟩ = some (.int .i64 rv.k) ∧ X.cell? ⟨BX, 2, none⟩ = some (.int .u64 (rv.i : Nat)) ∧ X.cell? ⟨BX, 3, none⟩ = some (.slice rv.op rv.np rv.cp) ∧ X.cell? ⟨BX, 4, none⟩ = some (.slice rv.ok rv.nk rv.ck)) := fun X hk => ⟨hk.cell x1 HNB.out, hk.cell x2 HNB.out, hk.cell x3 HNB.out, hk.cell x4 HNB.out⟩
      have K0 : Hid (Keeps FG wb wb.drew) := (Keeps.refl _ wb).drew
      go_wp2_with fail
      obtain ⟨OX, hOX⟩ : ∃ OX, s'.off = OX := ⟨_, rfl⟩
      have HOFF : Hid (s'.off = OX) := hOX
      clear hOX
      cases OX
      · skip
        refine wp_region_held_drew (S := (fun X => X.cell? ⟨BX, 1, none⟩ = some (.int .i64 rv.k) ∧ X.cell? ⟨BX, 2, none⟩ = some (.int .u64 (rv.i : Nat)) ∧ X.cell? ⟨BX, 3, none⟩ = some (.slice rv.op rv.np rv.cp) ∧ X.cell? ⟨BX, 4, none⟩ = some (.slice rv.ok rv.nk rv.ck))) (by kernel_rfl) ?_ (fun hHeld => ?_)
        · (first | exact HST.out _ K7.out | exact HST.out _ K6.out | exact HST.out _ K5.out | exact HST.out _ K0.out)
        refine wpAnyH_take (i := 0) (v := ?_) (by simp only [List.getElem?_toArray, List.getElem?_cons_succ, List.getElem?_cons_zero]; rfl) (by kernel_rfl) (by kernel_rfl) (by kernel_rfl) (by exact fun _ _ _ h => h) (Or.inl ⟨by rfl, ?_⟩) (by assumption) ?_
        rotate_left
        · (intro _ hSw; (try dsimp only at hSw); go_simp; (try with_reducible rfl))
        try simp only [Act.put, List.setIfInBounds_toArray, List.set_cons_zero, List.set_cons_succ]
        refine wpAnyH_take (i := 1) (v := ?_) (by simp only [List.getElem?_toArray, List.getElem?_cons_succ, List.getElem?_cons_zero]; rfl) (by kernel_rfl) (by kernel_rfl) (by kernel_rfl) (by exact fun _ _ _ h => h) (Or.inl ⟨by rfl, ?_⟩) (by assumption) ?_
        rotate_left
        · (intro _ hSw; (try dsimp only at hSw); go_simp; (try with_reducible rfl))
        try simp only [Act.put, List.setIfInBounds_toArray, List.set_cons_zero, List.set_cons_succ]
        refine wpAnyH_take (i := 2) (v := ?_) (by simp only [List.getElem?_toArray, List.getElem?_cons_succ, List.getElem?_cons_zero]; rfl) (by kernel_rfl) (by kernel_rfl) (by kernel_rfl) (by exact fun _ _ _ h => h) (Or.inl ⟨by rfl, ?_⟩) (by assumption) ?_
        rotate_left
        · (intro _ hSw; (try dsimp only at hSw); go_simp; (try with_reducible rfl))
        try simp only [Act.put, List.setIfInBounds_toArray, List.set_cons_zero, List.set_cons_succ]
        refine wpAnyH_take (i := 5) (v := ?_) (by simp only [List.getElem?_toArray, List.getElem?_cons_succ, List.getElem?_cons_zero]; rfl) (by kernel_rfl) (by kernel_rfl) (by kernel_rfl) (by exact fun _ _ _ h => h) (Or.inl ⟨by rfl, ?_⟩) (by assumption) ?_
        rotate_left
        · (intro _ hSw; (try dsimp only at hSw); go_simp; (try with_reducible rfl))
        try simp only [Act.put, List.setIfInBounds_toArray, List.set_cons_zero, List.set_cons_succ]
        refine wpAnyH_take (i := 6) (v := ?_) (by simp only [List.getElem?_toArray, List.getElem?_cons_succ, List.getElem?_cons_zero]; rfl) (by kernel_rfl) (by kernel_rfl) (by kernel_rfl) (by exact fun _ _ _ h => h) (Or.inl ⟨by rfl, ?_⟩) (by assumption) ?_
        rotate_left
        · (intro _ hSw; (try dsimp only at hSw); go_simp; (try with_reducible rfl))
        try simp only [Act.put, List.setIfInBounds_toArray, List.set_cons_zero, List.set_cons_succ]
        refine wpAnyH_take (i := 7) (v := ?_) (by simp only [List.getElem?_toArray, List.getElem?_cons_succ, List.getElem?_cons_zero]; rfl) (by kernel_rfl) (by kernel_rfl) (by kernel_rfl) (by exact fun _ _ _ h => h) (Or.inl ⟨by rfl, ?_⟩) (by assumption) ?_
        rotate_left
        · (intro _ hSw; (try dsimp only at hSw); go_simp; (try with_reducible rfl))
        try simp only [Act.put, List.setIfInBounds_toArray, List.set_cons_zero, List.set_cons_succ]
        refine wpAnyH_ready (rs := [3]) (by kernel_rfl) (by simp) ?_
        refine AllReadyH.cons (by simp only [List.getElem?_toArray, List.getElem?_cons_succ, List.getElem?_cons_zero]; rfl) (fun Kq hKq => ?_) AllReadyH.nil
        (go_simp; refine (own_v wb.drew rv rr (HRb.out.1.rc.keepsN (Keeps.refl no wb).drew)).mono ?_; rintro e w5 ⟨v5, rfl, HG5, hk5⟩; have HK5 : Hid (Keeps no wb w5) := ((Keeps.refl no wb).drew).trans hk5.out; have K5 : Hid (Keeps FG wb w5) := HK5.out.of_no; have HP5 : Hid (Pl w1 w5 p r F G s s) := HPb.out.beside HK5.out; have HL5 : Hid (Lg w1 w5 p r F G nm q' u' k k) := HLg.out.1.beside HK5.out; clear hk5)
        refine hKq.out _ _ ?_ (fun hHeldN => ?_)
        · (first | exact HST.out _ K7.out | exact HST.out _ K6.out | exact HST.out _ K5.out | exact HST.out _ K0.out)
        clear hKq Kq hHeld
        have hHeld := hHeldN
        clear hHeldN
        refine wpAnyH_ready (rs := [4]) (by kernel_rfl) (by simp) ?_
        refine AllReadyH.cons (by simp only [List.getElem?_toArray, List.getElem?_cons_succ, List.getElem?_cons_zero]; rfl) (fun Kq hKq => ?_) AllReadyH.nil
        (go_simp; refine (LogAppend_any w5 q' p F s nm k v5 rr HP5.out.a HL5.out.a HL5.out.qf (by have := HNM.out; unfold maxLen; omega) hkb HG5.out.isC (HT.out.keepsN HP5.out.kp) HFT.out).mono ?_; rintro e w6 ⟨rfl, HD6, HQ6, HK6⟩; rw [HA.out] at HD6 HQ6 ⊢; have HP6 : Hid (Pl w1 w6 p r (grow F w5 w6) G s' s) := HP5.out.growA HD6.out HK6.out HL5.out.qg HL5.out.q0; have HL6 : Hid (Lg w1 w6 p r (grow F w5 w6) G nm q' u' k' k) := HL5.out.growA (by rw [← HKK.out]; exact HQ6.out) HK6.out; have K6 : Hid (Keeps FG wb w6) := K5.out.then HK6.out (fun j h => .inl (by rcases h with h | h; exact HFG.out.1 j h; exact HFG.out.2.2.1 j h)); clear HD6 HQ6 HK6 HP5 HL5; generalize grow F w5 w6 = F' at HP6 HL6)
        refine hKq.out _ _ ?_ (fun hHeldN => ?_)
        · (first | exact HST.out _ K7.out | exact HST.out _ K6.out | exact HST.out _ K5.out | exact HST.out _ K0.out)
        clear hKq Kq hHeld
        have hHeld := hHeldN
        clear hHeldN
        refine wpAnyH_ready (rs := [8]) (by kernel_rfl) (by simp) ?_
        refine AllReadyH.cons (by simp only [List.getElem?_toArray, List.getElem?_cons_succ, List.getElem?_cons_zero]; rfl) (fun Kq hKq => ?_) AllReadyH.nil
        (go_simp; refine (rLogAppend_any w6 u' r G s nm k rv rr HP6.out.b HL6.out.b HL6.out.ug (by have := HNM.out; unfold maxLen; omega) hkb (HRW.out.1.rc.keepsN (HK1.out.trans HP6.out.kp)) HFT.out).mono ?_; rintro e w7 ⟨rfl, HD7, HQ7, HK7⟩; rw [HA.out] at HD7 HQ7 ⊢; have HP7 : Hid (Pl w1 w7 p r F' (grow G w6 w7) s' s') := HP6.out.growB HD7.out HK7.out HL6.out.uf HL6.out.u0; have HL7 : Hid (Lg w1 w7 p r F' (grow G w6 w7) nm q' u' k' k') := HL6.out.growB (by rw [← HKK.out]; exact HQ7.out) HK7.out; have K7 : Hid (Keeps FG wb w7) := K6.out.then HK7.out (fun j h => .inl (by rcases h with h | h; exact HFG.out.2.1 j h; exact HFG.out.2.2.2 j h)); clear HD7 HQ7 HK7 HP6 HL6; generalize grow G w6 w7 = G' at HP7 HL7)
        refine hKq.out _ _ ?_ (fun hHeldN => ?_)
        · (first | exact HST.out _ K7.out | exact HST.out _ K6.out | exact HST.out _ K5.out | exact HST.out _ K0.out)
        clear hKq Kq hHeld
        have hHeld := hHeldN
        clear hHeldN
        refine wpAnyH_take (i := 9) (v := ?_) (by simp only [List.getElem?_toArray, List.getElem?_cons_succ, List.getElem?_cons_zero]; rfl) (by kernel_rfl) (by kernel_rfl) (by kernel_rfl) (by exact fun _ _ _ h => h) (Or.inl ⟨by rfl, ?_⟩) (by assumption) ?_
        rotate_left
        · (intro _ hSw; (try dsimp only at hSw); go_simp; (try with_reducible rfl))
        try simp only [Act.put, List.setIfInBounds_toArray, List.set_cons_zero, List.set_cons_succ]
        refine wpAnyH_take (i := 10) (v := ?_) (by simp only [List.getElem?_toArray, List.getElem?_cons_succ, List.getElem?_cons_zero]; rfl) (by kernel_rfl) (by kernel_rfl) (by kernel_rfl) (by exact fun _ _ _ h => h) (Or.inl ⟨by rfl, ?_⟩) (by assumption) ?_
        rotate_left
        · (intro _ hSw; (try dsimp only at hSw); go_simp; (try with_reducible rfl))
        try simp only [Act.put, List.setIfInBounds_toArray, List.set_cons_zero, List.set_cons_succ]
        refine wpAnyH_take (i := 11) (v := ?_) (by simp only [List.getElem?_toArray, List.getElem?_cons_succ, List.getElem?_cons_zero]; rfl) (by kernel_rfl) (by kernel_rfl) (by kernel_rfl) (by exact fun _ _ _ h => h) (Or.inl ⟨by rfl, ?_⟩) (by assumption) ?_
        rotate_left
        · (intro _ hSw; (try dsimp only at hSw); go_simp; (try with_reducible rfl))
        try simp only [Act.put, List.setIfInBounds_toArray, List.set_cons_zero, List.set_cons_succ]
        refine wpAnyH_ready (rs := [12]) (by kernel_rfl) (by simp) ?_
        refine AllReadyH.cons (by simp only [List.getElem?_toArray, List.getElem?_cons_succ, List.getElem?_cons_zero]; rfl) (fun Kq hKq => ?_) AllReadyH.nil
        (go_simp; refine (down_any w7 p F' s' HP7.out.a).mono ?_; rintro e w' ⟨rfl, hw⟩; subst w'; (try rw [HOFF.out]))
        refine hKq.out _ _ ?_ (fun hHeldN => ?_)
        · (first | exact HST.out _ K7.out | exact HST.out _ K6.out | exact HST.out _ K5.out | exact HST.out _ K0.out)
        clear hKq Kq hHeld
        have hHeld := hHeldN
        clear hHeldN
        refine wpAnyH_take (i := 13) (v := ?_) (by simp only [List.getElem?_toArray, List.getElem?_cons_succ, List.getElem?_cons_zero]; rfl) (by kernel_rfl) (by kernel_rfl) (by kernel_rfl) (by exact fun _ _ _ h => h) (Or.inl ⟨by rfl, ?_⟩) (by assumption) ?_
        rotate_left
        · (intro _ hSw; (try dsimp only at hSw); go_simp; (try with_reducible rfl))
        try simp only [Act.put, List.setIfInBounds_toArray, List.set_cons_zero, List.set_cons_succ]
        refine wpAnyH_take (i := 14) (v := ?_) (by simp only [List.getElem?_toArray, List.getElem?_cons_succ, List.getElem?_cons_zero]; rfl) (by kernel_rfl) (by kernel_rfl) (by kernel_rfl) (by exact fun _ _ _ h => h) (Or.inl ⟨by rfl, ?_⟩) (by assumption) ?_
        rotate_left
        · (intro _ hSw; (try dsimp only at hSw); go_simp; (try with_reducible rfl))
        try simp only [Act.put, List.setIfInBounds_toArray, List.set_cons_zero, List.set_cons_succ]
        refine wpAnyH_take (i := 15) (v := ?_) (by simp only [List.getElem?_toArray, List.getElem?_cons_succ, List.getElem?_cons_zero]; rfl) (by kernel_rfl) (by kernel_rfl) (by kernel_rfl) (by exact fun _ _ _ h => h) (Or.inl ⟨by rfl, ?_⟩) (by assumption) ?_
        rotate_left
        · (intro _ hSw; (try dsimp only at hSw); go_simp; (try with_reducible rfl))
        try simp only [Act.put, List.setIfInBounds_toArray, List.set_cons_zero, List.set_cons_succ]
        refine wpAnyH_take (i := 17) (v := ?_) (by simp only [List.getElem?_toArray, List.getElem?_cons_succ, List.getElem?_cons_zero]; rfl) (by kernel_rfl) (by kernel_rfl) (by kernel_rfl) (by exact fun _ _ _ h => h) (Or.inl ⟨by rfl, ?_⟩) (by assumption) ?_
        rotate_left
        · (intro _ hSw; (try dsimp only at hSw); go_simp; (try with_reducible rfl))
        try simp only [Act.put, List.setIfInBounds_toArray, List.set_cons_zero, List.set_cons_succ]
        refine wpAnyH_ready (rs := [16]) (by kernel_rfl) (by simp) ?_
        refine AllReadyH.cons (by simp only [List.getElem?_toArray, List.getElem?_cons_succ, List.getElem?_cons_zero]; rfl) (fun Kq hKq => ?_) AllReadyH.nil
        (go_simp; refine (LogSize_any w7 q' p nm k' HL7.out.a).mono ?_; rintro e w' ⟨rfl, hw⟩; subst w'; (try rw [HOFF.out]))
        refine hKq.out _ _ ?_ (fun hHeldN => ?_)
        · (first | exact HST.out _ K7.out | exact HST.out _ K6.out | exact HST.out _ K5.out | exact HST.out _ K0.out)
        clear hKq Kq hHeld
        have hHeld := hHeldN
        clear hHeldN
        refine wpAnyH_ready (rs := [18]) (by kernel_rfl) (by simp) ?_
        refine AllReadyH.cons (by simp only [List.getElem?_toArray, List.getElem?_cons_succ, List.getElem?_cons_zero]; rfl) (fun Kq hKq => ?_) AllReadyH.nil
        (go_simp; refine (rLogSize_any w7 u' r nm k' HL7.out.b).mono ?_; rintro e w' ⟨rfl, hw⟩; subst w'; (try rw [HOFF.out]))
        refine hKq.out _ _ ?_ (fun hHeldN => ?_)
        · (first | exact HST.out _ K7.out | exact HST.out _ K6.out | exact HST.out _ K5.out | exact HST.out _ K0.out)
        clear hKq Kq hHeld
        have hHeld := hHeldN
        clear hHeldN
        refine wpAnyH_take (i := 19) (v := ?_) (by simp only [List.getElem?_toArray, List.getElem?_cons_succ, List.getElem?_cons_zero]; rfl) (by kernel_rfl) (by kernel_rfl) (by kernel_rfl) (by exact fun _ _ _ h => h) (Or.inl ⟨by rfl, ?_⟩) (by assumption) ?_
        rotate_left
        · (intro _ hSw; (try dsimp only at hSw); go_simp; (try with_reducible rfl))
        try simp only [Act.put, List.setIfInBounds_toArray, List.set_cons_zero, List.set_cons_succ]
        refine wpAnyH_take (i := 20) (v := ?_) (by simp only [List.getElem?_toArray, List.getElem?_cons_succ, List.getElem?_cons_zero]; rfl) (by kernel_rfl) (by kernel_rfl) (by kernel_rfl) (by exact fun _ _ _ h => h) (Or.inl ⟨by rfl, ?_⟩) (by assumption) ?_
        rotate_left
        · (intro _ hSw; (try dsimp only at hSw); go_simp; (try with_reducible rfl))
        try simp only [Act.put, List.setIfInBounds_toArray, List.set_cons_zero, List.set_cons_succ]
        refine wpAnyH_take (i := 21) (v := ?_) (by simp only [List.getElem?_toArray, List.getElem?_cons_succ, List.getElem?_cons_zero]; rfl) (by kernel_rfl) (by kernel_rfl) (by kernel_rfl) (by exact fun _ _ _ h => h) (Or.inl ⟨by rfl, ?_⟩) (by assumption) ?_
        rotate_left
        · (intro _ hSw; (try dsimp only at hSw); go_simp; (try with_reducible rfl))
        try simp only [Act.put, List.setIfInBounds_toArray, List.set_cons_zero, List.set_cons_succ]
        refine wpAnyH_take (i := 23) (v := ?_) (by simp only [List.getElem?_toArray, List.getElem?_cons_succ, List.getElem?_cons_zero]; rfl) (by kernel_rfl) (by kernel_rfl) (by kernel_rfl) (by exact fun _ _ _ h => h) (Or.inl ⟨by rfl, ?_⟩) (by assumption) ?_
        rotate_left
        · (intro _ hSw; (try dsimp only at hSw); go_simp; (try with_reducible rfl))
        try simp only [Act.put, List.setIfInBounds_toArray, List.set_cons_zero, List.set_cons_succ]
        refine wpAnyH_ready (rs := [22]) (by kernel_rfl) (by simp) ?_
        refine AllReadyH.cons (by simp only [List.getElem?_toArray, List.getElem?_cons_succ, List.getElem?_cons_zero]; rfl) (fun Kq hKq => ?_) AllReadyH.nil
        (go_simp; refine (LogName_any w7 q' p nm k' HL7.out.a).mono ?_; rintro e w' ⟨rfl, hw⟩; subst w'; (try rw [HOFF.out]))
        refine hKq.out _ _ ?_ (fun hHeldN => ?_)
        · (first | exact HST.out _ K7.out | exact HST.out _ K6.out | exact HST.out _ K5.out | exact HST.out _ K0.out)
        clear hKq Kq hHeld
        have hHeld := hHeldN
        clear hHeldN
        refine wpAnyH_ready (rs := [24]) (by kernel_rfl) (by simp) ?_
        refine AllReadyH.cons (by simp only [List.getElem?_toArray, List.getElem?_cons_succ, List.getElem?_cons_zero]; rfl) (fun Kq hKq => ?_) AllReadyH.nil
        (go_simp; refine (rLogName_any w7 u' r nm k' HL7.out.b).mono ?_; rintro e w' ⟨rfl, hw⟩; subst w'; (try rw [HOFF.out]))
        refine hKq.out _ _ ?_ (fun hHeldN => ?_)
        · (first | exact HST.out _ K7.out | exact HST.out _ K6.out | exact HST.out _ K5.out | exact HST.out _ K0.out)
        clear hKq Kq hHeld
        have hHeld := hHeldN
        clear hHeldN
        refine wpAnyH_take (i := 25) (v := ?_) (by simp only [List.getElem?_toArray, List.getElem?_cons_succ, List.getElem?_cons_zero]; rfl) (by kernel_rfl) (by kernel_rfl) (by kernel_rfl) (by exact fun _ _ _ h => h) (Or.inl ⟨by rfl, ?_⟩) (by assumption) ?_
        rotate_left
        · (intro _ hSw; (try dsimp only at hSw); go_simp; (try with_reducible rfl))
        try simp only [Act.put, List.setIfInBounds_toArray, List.set_cons_zero, List.set_cons_succ]
        refine wpAnyH_take (i := 26) (v := ?_) (by simp only [List.getElem?_toArray, List.getElem?_cons_succ, List.getElem?_cons_zero]; rfl) (by kernel_rfl) (by kernel_rfl) (by kernel_rfl) (by exact fun _ _ _ h => h) (Or.inl ⟨by rfl, ?_⟩) (by assumption) ?_
        rotate_left
        · (intro _ hSw; (try dsimp only at hSw); go_simp; (try with_reducible rfl))
        try simp only [Act.put, List.setIfInBounds_toArray, List.set_cons_zero, List.set_cons_succ]
        refine wpAnyH_take (i := 27) (v := ?_) (by simp only [List.getElem?_toArray, List.getElem?_cons_succ, List.getElem?_cons_zero]; rfl) (by kernel_rfl) (by kernel_rfl) (by kernel_rfl) (by exact fun _ _ _ h => h) (Or.inl ⟨by rfl, ?_⟩) (by assumption) ?_
        rotate_left
        · (intro _ hSw; (try dsimp only at hSw); go_simp; (try with_reducible rfl))
        try simp only [Act.put, List.setIfInBounds_toArray, List.set_cons_zero, List.set_cons_succ]
        refine wpAnyH_take (i := 28) (v := ?_) (by simp only [List.getElem?_toArray, List.getElem?_cons_succ, List.getElem?_cons_zero]; rfl) (by kernel_rfl) (by kernel_rfl) (by kernel_rfl) (by exact fun _ _ _ h => h) (Or.inl ⟨by rfl, ?_⟩) (by assumption) ?_
        rotate_left
        · (intro _ hSw; (try dsimp only at hSw); go_simp; (try with_reducible rfl))
        try simp only [Act.put, List.setIfInBounds_toArray, List.set_cons_zero, List.set_cons_succ]
        refine wpAnyH_done (by kernel_rfl) ?_ _
        clear hHeld
        go_wp2_with fail
        go_meet
        go_light
        exact ⟨s', F', G', some (q', u', k'), rfl, rfl, ⟨HP7.out, HSA.out⟩, ⟨HL7.out, HKL.out⟩⟩
      · skip
        refine wp_region_held_drew (S := (fun X => X.cell? ⟨BX, 1, none⟩ = some (.int .i64 rv.k) ∧ X.cell? ⟨BX, 2, none⟩ = some (.int .u64 (rv.i : Nat)) ∧ X.cell? ⟨BX, 3, none⟩ = some (.slice rv.op rv.np rv.cp) ∧ X.cell? ⟨BX, 4, none⟩ = some (.slice rv.ok rv.nk rv.ck))) (by kernel_rfl) ?_ (fun hHeld => ?_)
        · (first | exact HST.out _ K7.out | exact HST.out _ K6.out | exact HST.out _ K5.out | exact HST.out _ K0.out)
        refine wpAnyH_take (i := 0) (v := ?_) (by simp only [List.getElem?_toArray, List.getElem?_cons_succ, List.getElem?_cons_zero]; rfl) (by kernel_rfl) (by kernel_rfl) (by kernel_rfl) (by exact fun _ _ _ h => h) (Or.inl ⟨by rfl, ?_⟩) (by assumption) ?_
        rotate_left
        · (intro _ hSw; (try dsimp only at hSw); go_simp; (try with_reducible rfl))
        try simp only [Act.put, List.setIfInBounds_toArray, List.set_cons_zero, List.set_cons_succ]
        refine wpAnyH_take (i := 1) (v := ?_) (by simp only [List.getElem?_toArray, List.getElem?_cons_succ, List.getElem?_cons_zero]; rfl) (by kernel_rfl) (by kernel_rfl) (by kernel_rfl) (by exact fun _ _ _ h => h) (Or.inl ⟨by rfl, ?_⟩) (by assumption) ?_
        rotate_left
        · (intro _ hSw; (try dsimp only at hSw); go_simp; (try with_reducible rfl))
        try simp only [Act.put, List.setIfInBounds_toArray, List.set_cons_zero, List.set_cons_succ]
        refine wpAnyH_take (i := 2) (v := ?_) (by simp only [List.getElem?_toArray, List.getElem?_cons_succ, List.getElem?_cons_zero]; rfl) (by kernel_rfl) (by kernel_rfl) (by kernel_rfl) (by exact fun _ _ _ h => h) (Or.inl ⟨by rfl, ?_⟩) (by assumption) ?_
        rotate_left
        · (intro _ hSw; (try dsimp only at hSw); go_simp; (try with_reducible rfl))
        try simp only [Act.put, List.setIfInBounds_toArray, List.set_cons_zero, List.set_cons_succ]
        refine wpAnyH_take (i := 5) (v := ?_) (by simp only [List.getElem?_toArray, List.getElem?_cons_succ, List.getElem?_cons_zero]; rfl) (by kernel_rfl) (by kernel_rfl) (by kernel_rfl) (by exact fun _ _ _ h => h) (Or.inl ⟨by rfl, ?_⟩) (by assumption) ?_
        rotate_left
        · (intro _ hSw; (try dsimp only at hSw); go_simp; (try with_reducible rfl))
        try simp only [Act.put, List.setIfInBounds_toArray, List.set_cons_zero, List.set_cons_succ]
        refine wpAnyH_take (i := 6) (v := ?_) (by simp only [List.getElem?_toArray, List.getElem?_cons_succ, List.getElem?_cons_zero]; rfl) (by kernel_rfl) (by kernel_rfl) (by kernel_rfl) (by exact fun _ _ _ h => h) (Or.inl ⟨by rfl, ?_⟩) (by assumption) ?_
        rotate_left
        · (intro _ hSw; (try dsimp only at hSw); go_simp; (try with_reducible rfl))
        try simp only [Act.put, List.setIfInBounds_toArray, List.set_cons_zero, List.set_cons_succ]
        refine wpAnyH_take (i := 7) (v := ?_) (by simp only [List.getElem?_toArray, List.getElem?_cons_succ, List.getElem?_cons_zero]; rfl) (by kernel_rfl) (by kernel_rfl) (by kernel_rfl) (by exact fun _ _ _ h => h) (Or.inl ⟨by rfl, ?_⟩) (by assumption) ?_
        rotate_left
        · (intro _ hSw; (try dsimp only at hSw); go_simp; (try with_reducible rfl))
        try simp only [Act.put, List.setIfInBounds_toArray, List.set_cons_zero, List.set_cons_succ]
        refine wpAnyH_ready (rs := [3]) (by kernel_rfl) (by simp) ?_
        refine AllReadyH.cons (by simp only [List.getElem?_toArray, List.getElem?_cons_succ, List.getElem?_cons_zero]; rfl) (fun Kq hKq => ?_) AllReadyH.nil
        (go_simp; refine (own_v wb.drew rv rr (HRb.out.1.rc.keepsN (Keeps.refl no wb).drew)).mono ?_; rintro e w5 ⟨v5, rfl, HG5, hk5⟩; have HK5 : Hid (Keeps no wb w5) := ((Keeps.refl no wb).drew).trans hk5.out; have K5 : Hid (Keeps FG wb w5) := HK5.out.of_no; have HP5 : Hid (Pl w1 w5 p r F G s s) := HPb.out.beside HK5.out; have HL5 : Hid (Lg w1 w5 p r F G nm q' u' k k) := HLg.out.1.beside HK5.out; clear hk5)
        refine hKq.out _ _ ?_ (fun hHeldN => ?_)
        · (first | exact HST.out _ K7.out | exact HST.out _ K6.out | exact HST.out _ K5.out | exact HST.out _ K0.out)
        clear hKq Kq hHeld
        have hHeld := hHeldN
        clear hHeldN
        refine wpAnyH_ready (rs := [4]) (by kernel_rfl) (by simp) ?_
        refine AllReadyH.cons (by simp only [List.getElem?_toArray, List.getElem?_cons_succ, List.getElem?_cons_zero]; rfl) (fun Kq hKq => ?_) AllReadyH.nil
        (go_simp; refine (LogAppend_any w5 q' p F s nm k v5 rr HP5.out.a HL5.out.a HL5.out.qf (by have := HNM.out; unfold maxLen; omega) hkb HG5.out.isC (HT.out.keepsN HP5.out.kp) HFT.out).mono ?_; rintro e w6 ⟨rfl, HD6, HQ6, HK6⟩; rw [HA.out] at HD6 HQ6 ⊢; have HP6 : Hid (Pl w1 w6 p r (grow F w5 w6) G s' s) := HP5.out.growA HD6.out HK6.out HL5.out.qg HL5.out.q0; have HL6 : Hid (Lg w1 w6 p r (grow F w5 w6) G nm q' u' k' k) := HL5.out.growA (by rw [← HKK.out]; exact HQ6.out) HK6.out; have K6 : Hid (Keeps FG wb w6) := K5.out.then HK6.out (fun j h => .inl (by rcases h with h | h; exact HFG.out.1 j h; exact HFG.out.2.2.1 j h)); clear HD6 HQ6 HK6 HP5 HL5; generalize grow F w5 w6 = F' at HP6 HL6)
        refine hKq.out _ _ ?_ (fun hHeldN => ?_)
        · (first | exact HST.out _ K7.out | exact HST.out _ K6.out | exact HST.out _ K5.out | exact HST.out _ K0.out)
        clear hKq Kq hHeld
        have hHeld := hHeldN
        clear hHeldN
        refine wpAnyH_ready (rs := [8]) (by kernel_rfl) (by simp) ?_
        refine AllReadyH.cons (by simp only [List.getElem?_toArray, List.getElem?_cons_succ, List.getElem?_cons_zero]; rfl) (fun Kq hKq => ?_) AllReadyH.nil
        (go_simp; refine (rLogAppend_any w6 u' r G s nm k rv rr HP6.out.b HL6.out.b HL6.out.ug (by have := HNM.out; unfold maxLen; omega) hkb (HRW.out.1.rc.keepsN (HK1.out.trans HP6.out.kp)) HFT.out).mono ?_; rintro e w7 ⟨rfl, HD7, HQ7, HK7⟩; rw [HA.out] at HD7 HQ7 ⊢; have HP7 : Hid (Pl w1 w7 p r F' (grow G w6 w7) s' s') := HP6.out.growB HD7.out HK7.out HL6.out.uf HL6.out.u0; have HL7 : Hid (Lg w1 w7 p r F' (grow G w6 w7) nm q' u' k' k') := HL6.out.growB (by rw [← HKK.out]; exact HQ7.out) HK7.out; have K7 : Hid (Keeps FG wb w7) := K6.out.then HK7.out (fun j h => .inl (by rcases h with h | h; exact HFG.out.2.1 j h; exact HFG.out.2.2.2 j h)); clear HD7 HQ7 HK7 HP6 HL6; generalize grow G w6 w7 = G' at HP7 HL7)
        refine hKq.out _ _ ?_ (fun hHeldN => ?_)
        · (first | exact HST.out _ K7.out | exact HST.out _ K6.out | exact HST.out _ K5.out | exact HST.out _ K0.out)
        clear hKq Kq hHeld
        have hHeld := hHeldN
        clear hHeldN
        refine wpAnyH_take (i := 9) (v := ?_) (by simp only [List.getElem?_toArray, List.getElem?_cons_succ, List.getElem?_cons_zero]; rfl) (by kernel_rfl) (by kernel_rfl) (by kernel_rfl) (by exact fun _ _ _ h => h) (Or.inl ⟨by rfl, ?_⟩) (by assumption) ?_
        rotate_left
        · (intro _ hSw; (try dsimp only at hSw); go_simp; (try with_reducible rfl))
        try simp only [Act.put, List.setIfInBounds_toArray, List.set_cons_zero, List.set_cons_succ]
        refine wpAnyH_take (i := 10) (v := ?_) (by simp only [List.getElem?_toArray, List.getElem?_cons_succ, List.getElem?_cons_zero]; rfl) (by kernel_rfl) (by kernel_rfl) (by kernel_rfl) (by exact fun _ _ _ h => h) (Or.inl ⟨by rfl, ?_⟩) (by assumption) ?_
        rotate_left
        · (intro _ hSw; (try dsimp only at hSw); go_simp; (try with_reducible rfl))
        try simp only [Act.put, List.setIfInBounds_toArray, List.set_cons_zero, List.set_cons_succ]
        refine wpAnyH_take (i := 11) (v := ?_) (by simp only [List.getElem?_toArray, List.getElem?_cons_succ, List.getElem?_cons_zero]; rfl) (by kernel_rfl) (by kernel_rfl) (by kernel_rfl) (by exact fun _ _ _ h => h) (Or.inl ⟨by rfl, ?_⟩) (by assumption) ?_
        rotate_left
        · (intro _ hSw; (try dsimp only at hSw); go_simp; (try with_reducible rfl))
        try simp only [Act.put, List.setIfInBounds_toArray, List.set_cons_zero, List.set_cons_succ]
        refine wpAnyH_ready (rs := [12]) (by kernel_rfl) (by simp) ?_
        refine AllReadyH.cons (by simp only [List.getElem?_toArray, List.getElem?_cons_succ, List.getElem?_cons_zero]; rfl) (fun Kq hKq => ?_) AllReadyH.nil
        (go_simp; refine (down_any w7 p F' s' HP7.out.a).mono ?_; rintro e w' ⟨rfl, hw⟩; subst w'; (try rw [HOFF.out]))
        refine hKq.out _ _ ?_ (fun hHeldN => ?_)
        · (first | exact HST.out _ K7.out | exact HST.out _ K6.out | exact HST.out _ K5.out | exact HST.out _ K0.out)
        clear hKq Kq hHeld
        have hHeld := hHeldN
        clear hHeldN
        refine wpAnyH_take (i := 13) (v := ?_) (by simp only [List.getElem?_toArray, List.getElem?_cons_succ, List.getElem?_cons_zero]; rfl) (by kernel_rfl) (by kernel_rfl) (by kernel_rfl) (by exact fun _ _ _ h => h) (Or.inl ⟨by rfl, ?_⟩) (by assumption) ?_
        rotate_left
        · (intro _ hSw; (try dsimp only at hSw); go_simp; (try with_reducible rfl))
        try simp only [Act.put, List.setIfInBounds_toArray, List.set_cons_zero, List.set_cons_succ]
        refine wpAnyH_take (i := 14) (v := ?_) (by simp only [List.getElem?_toArray, List.getElem?_cons_succ, List.getElem?_cons_zero]; rfl) (by kernel_rfl) (by kernel_rfl) (by kernel_rfl) (by exact fun _ _ _ h => h) (Or.inl ⟨by rfl, ?_⟩) (by assumption) ?_
        rotate_left
        · (intro _ hSw; (try dsimp only at hSw); go_simp; (try with_reducible rfl))
        try simp only [Act.put, List.setIfInBounds_toArray, List.set_cons_zero, List.set_cons_succ]
        refine wpAnyH_take (i := 15) (v := undef) (by simp only [List.getElem?_toArray, List.getElem?_cons_succ, List.getElem?_cons_zero]; rfl) (by kernel_rfl) (by kernel_rfl) (by kernel_rfl) (by exact fun _ _ _ h => h) (Or.inr ⟨by rfl, rfl⟩) (by assumption) ?_
        try simp only [Act.put, List.setIfInBounds_toArray, List.set_cons_zero, List.set_cons_succ]
        refine wpAnyH_take (i := 16) (v := undef) (by simp only [List.getElem?_toArray, List.getElem?_cons_succ, List.getElem?_cons_zero]; rfl) (by kernel_rfl) (by kernel_rfl) (by kernel_rfl) (by exact fun _ _ _ h => h) (Or.inr ⟨by rfl, rfl⟩) (by assumption) ?_
        try simp only [Act.put, List.setIfInBounds_toArray, List.set_cons_zero, List.set_cons_succ]
        refine wpAnyH_take (i := 17) (v := undef) (by simp only [List.getElem?_toArray, List.getElem?_cons_succ, List.getElem?_cons_zero]; rfl) (by kernel_rfl) (by kernel_rfl) (by kernel_rfl) (by exact fun _ _ _ h => h) (Or.inr ⟨by rfl, rfl⟩) (by assumption) ?_
        try simp only [Act.put, List.setIfInBounds_toArray, List.set_cons_zero, List.set_cons_succ]
        refine wpAnyH_take (i := 18) (v := undef) (by simp only [List.getElem?_toArray, List.getElem?_cons_succ, List.getElem?_cons_zero]; rfl) (by kernel_rfl) (by kernel_rfl) (by kernel_rfl) (by exact fun _ _ _ h => h) (Or.inr ⟨by rfl, rfl⟩) (by assumption) ?_
        try simp only [Act.put, List.setIfInBounds_toArray, List.set_cons_zero, List.set_cons_succ]
        refine wpAnyH_take (i := 19) (v := undef) (by simp only [List.getElem?_toArray, List.getElem?_cons_succ, List.getElem?_cons_zero]; rfl) (by kernel_rfl) (by kernel_rfl) (by kernel_rfl) (by exact fun _ _ _ h => h) (Or.inr ⟨by rfl, rfl⟩) (by assumption) ?_
        try simp only [Act.put, List.setIfInBounds_toArray, List.set_cons_zero, List.set_cons_succ]
        refine wpAnyH_take (i := 20) (v := undef) (by simp only [List.getElem?_toArray, List.getElem?_cons_succ, List.getElem?_cons_zero]; rfl) (by kernel_rfl) (by kernel_rfl) (by kernel_rfl) (by exact fun _ _ _ h => h) (Or.inr ⟨by rfl, rfl⟩) (by assumption) ?_
        try simp only [Act.put, List.setIfInBounds_toArray, List.set_cons_zero, List.set_cons_succ]
        refine wpAnyH_take (i := 21) (v := undef) (by simp only [List.getElem?_toArray, List.getElem?_cons_succ, List.getElem?_cons_zero]; rfl) (by kernel_rfl) (by kernel_rfl) (by kernel_rfl) (by exact fun _ _ _ h => h) (Or.inr ⟨by rfl, rfl⟩) (by assumption) ?_
        try simp only [Act.put, List.setIfInBounds_toArray, List.set_cons_zero, List.set_cons_succ]
        refine wpAnyH_take (i := 22) (v := undef) (by simp only [List.getElem?_toArray, List.getElem?_cons_succ, List.getElem?_cons_zero]; rfl) (by kernel_rfl) (by kernel_rfl) (by kernel_rfl) (by exact fun _ _ _ h => h) (Or.inr ⟨by rfl, rfl⟩) (by assumption) ?_
        try simp only [Act.put, List.setIfInBounds_toArray, List.set_cons_zero, List.set_cons_succ]
        refine wpAnyH_take (i := 23) (v := undef) (by simp only [List.getElem?_toArray, List.getElem?_cons_succ, List.getElem?_cons_zero]; rfl) (by kernel_rfl) (by kernel_rfl) (by kernel_rfl) (by exact fun _ _ _ h => h) (Or.inr ⟨by rfl, rfl⟩) (by assumption) ?_
        try simp only [Act.put, List.setIfInBounds_toArray, List.set_cons_zero, List.set_cons_succ]
        refine wpAnyH_take (i := 24) (v := undef) (by simp only [List.getElem?_toArray, List.getElem?_cons_succ, List.getElem?_cons_zero]; rfl) (by kernel_rfl) (by kernel_rfl) (by kernel_rfl) (by exact fun _ _ _ h => h) (Or.inr ⟨by rfl, rfl⟩) (by assumption) ?_
        try simp only [Act.put, List.setIfInBounds_toArray, List.set_cons_zero, List.set_cons_succ]
        refine wpAnyH_take (i := 25) (v := undef) (by simp only [List.getElem?_toArray, List.getElem?_cons_succ, List.getElem?_cons_zero]; rfl) (by kernel_rfl) (by kernel_rfl) (by kernel_rfl) (by exact fun _ _ _ h => h) (Or.inr ⟨by rfl, rfl⟩) (by assumption) ?_
        try simp only [Act.put, List.setIfInBounds_toArray, List.set_cons_zero, List.set_cons_succ]
        refine wpAnyH_take (i := 26) (v := undef) (by simp only [List.getElem?_toArray, List.getElem?_cons_succ, List.getElem?_cons_zero]; rfl) (by kernel_rfl) (by kernel_rfl) (by kernel_rfl) (by exact fun _ _ _ h => h) (Or.inr ⟨by rfl, rfl⟩) (by assumption) ?_
        try simp only [Act.put, List.setIfInBounds_toArray, List.set_cons_zero, List.set_cons_succ]
        refine wpAnyH_take (i := 27) (v := ?_) (by simp only [List.getElem?_toArray, List.getElem?_cons_succ, List.getElem?_cons_zero]; rfl) (by kernel_rfl) (by kernel_rfl) (by kernel_rfl) (by exact fun _ _ _ h => h) (Or.inl ⟨by rfl, ?_⟩) (by assumption) ?_
        rotate_left
        · (intro _ hSw; (try dsimp only at hSw); go_simp; (try with_reducible rfl))
        try simp only [Act.put, List.setIfInBounds_toArray, List.set_cons_zero, List.set_cons_succ]
        refine wpAnyH_take (i := 28) (v := ?_) (by simp only [List.getElem?_toArray, List.getElem?_cons_succ, List.getElem?_cons_zero]; rfl) (by kernel_rfl) (by kernel_rfl) (by kernel_rfl) (by exact fun _ _ _ h => h) (Or.inl ⟨by rfl, ?_⟩) (by assumption) ?_
        rotate_left
        · (intro _ hSw; (try dsimp only at hSw); go_simp; (try with_reducible rfl))
        try simp only [Act.put, List.setIfInBounds_toArray, List.set_cons_zero, List.set_cons_succ]
        refine wpAnyH_done (by kernel_rfl) ?_ _
        clear hHeld
        go_wp2_with fail
        go_meet
        go_light
        exact ⟨s', F', G', some (q', u', k'), rfl, rfl, ⟨HP7.out, HSA.out⟩, ⟨HL7.out, HKL.out⟩⟩
    · go_wp2_with fail
      go_meet
      go_light
      exact ⟨s, F, G, some (q', u', k), rfl, rfl, ⟨HPb.out, HSz.out.1.mono (by omega)⟩, ⟨HLg.out.1, kk_up HLg.out.2⟩⟩
end Go.Proofs.YtgamhblkgojapaaGreatDoor

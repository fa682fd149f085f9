import Derived.Test.YtclheacjhkoocaaK3
import Derived.Test.YtclheacjhkoocaaB4
namespace Go.Proofs.Ytclheacjhkoocaa
open Go.RowKit
open Pk
set_option linter.unusedVariables false
set_option linter.unusedSimpArgs false

theorem drop_two {ds : List Nat} {n : Nat} (h : ds.drop n = [171, 172]) : ds.getD n 0 = 171 ∧ ds.getD (n + 1) 0 = 172 := by
  have h0 : ds[n]? = some 171 := by
    have := congrArg (fun l => l[0]?) h
    simpa using this
  have h1 : ds[n + 1]? = some 172 := by
    have := congrArg (fun l => l[1]?) h
    simpa using this
  simp [List.getD_eq_getElem?_getD, h0, h1]

theorem Row.blk_lt {w : World} {o : Option Addr} {bs : List Nat} (h : Row w o bs) (h0 : bs ≠ []) : ∀ k, inO o k → k < w.heap.size := by
  rintro k ⟨x, rfl, rfl⟩
  rcases h.2.2 with h' | ⟨b, off, e, hc⟩
  · exact absurd h' h0
  · cases e
    have := hc 0 (by cases bs with | nil => exact absurd rfl h0 | cons _ _ => simp)
    exact World.block_lt_of_cell? w _ this
theorem row_two (u : World) : RowS (u.alloc (.cells #[.string ⟨#[115, 112, 97, 114, 101]⟩, .string ⟨#[114, 111, 111, 109]⟩] 9)) (some ⟨u.heap.size, 0, none⟩) [⟨#[115, 112, 97, 114, 101]⟩, ⟨#[114, 111, 111, 109]⟩] :=
  .inr ⟨_, _, rfl, fun j hj => by
    rw [cell_of_blk (blk_new u _)]
    match j, hj with
    | 0, _ => rfl
    | 1, _ => rfl⟩
/-- the list that is lent: new memory; what was there is as it was -/
theorem lent_of {w0 wa w5 w6 : World} {y : Obj} {ss : List ByteArray} {o1 oL : Option Addr} {c1 cL : Nat} (hka : Keeps (fun _ => False) w0 wa) (h1 : OwnsS w5 o1 c1 ss) (hf1 : Fresh wa none o1) (hk1 : Keeps (inO none) wa w5)
    (h2 : OwnsS w6 oL cL (ss ++ [⟨#[115, 112, 97, 114, 101]⟩, ⟨#[114, 111, 111, 109]⟩])) (hf2 : Fresh (w5.alloc y) o1 oL) (hk2 : Keeps (inO o1) (w5.alloc y) w6) :
    ∃ g, oL = some ⟨g, 0, none⟩ ∧ Hid (wa.heap.size ≤ g ∧ g < w6.heap.size) ∧ Hid (OwnsS w6 (some ⟨g, 0, none⟩) cL (ss ++ [⟨#[115, 112, 97, 114, 101]⟩, ⟨#[114, 111, 111, 109]⟩])) ∧ Hid (Keeps (fun _ => False) w0 w6) ∧
      (∀ w, (Instr.slice 32 (.slice (some ⟨g, 0, none⟩) (ss.length + 2) cL) none (some (.int .i64 (ss.length : Nat))) none).run Try.prog w = .ok (.slice (some ⟨g, 0, none⟩) ss.length cL) w) ∧ Hid (ss.length ≤ cL) := by
  have hn1 : ∀ x, inO o1 x → wa.heap.size ≤ x := fun x hx => by
    rcases hf1.in x hx with ⟨y, hy, _⟩ | h'
    · cases hy
    · exact h'
  have hkk1 : Keeps (fun _ => False) wa w5 := hk1.mono (fun i ⟨x, h, _⟩ => by cases h)
  have hn2 : ∀ x, inO oL x → wa.heap.size ≤ x := fun x hx => by
    rcases hf2.in x hx with h' | h'
    · exact hn1 x h'
    · have := hkk1.size; rw [World.size_alloc] at h'; omega
  have hcap := h2.cap
  rcases h2.shape with ⟨_, _, e⟩ | ⟨g, cur, rfl, _, h4, _⟩
  · simp at e
  · simp at h4
    exact ⟨g, rfl, ⟨hn2 g ⟨_, rfl, rfl⟩, h2.lt g ⟨_, rfl, rfl⟩⟩, h2, (hka.trans (hkk1.alloc _)).then hk2 (fun i hi => .inr (by have := hn1 i hi; have := hka.size; omega)), fun w => cut32 g _ _ cL (by omega) w, (by show _ ≤ _; omega)⟩
theorem lent_box {w0 wa w5 w6 : World} {y : Obj} {o1 : Option Addr} {bx : Nat} {ob : Obj} (hka : Keeps (fun _ => False) w0 wa) (hb : wa.heap[bx]? = some ob) (hf1 : Fresh wa none o1) (hk1 : Keeps (inO none) wa w5) (hk2 : Keeps (inO o1) (w5.alloc y) w6) : w6.heap[bx]? = some ob := by
  have hkk1 : Keeps (fun _ => False) wa w5 := hk1.mono (fun i ⟨x, h, _⟩ => by cases h)
  refine hk2.at (blk_alloc (hkk1.at hb (fun h => h)) y) (fun hin => ?_)
  rcases hf1.in bx hin with ⟨z, hz, _⟩ | h'
  · cases hz
  · have := lt_of_block hb; omega

theorem rowX_two (u : World) (x y : SlV) : RowX (u.alloc (.cells #[.slice x.o x.bs.length x.c, .slice y.o y.bs.length y.c] 23)) (some ⟨u.heap.size, 0, none⟩) [x, y] :=
  .inr ⟨_, _, rfl, fun j hj => by
    rw [cell_of_blk (blk_new u _)]
    match j, hj with
    | 0, _ => rfl
    | 1, _ => rfl⟩
theorem lent_ends {w : World} {g c : Nat} {ss : List ByteArray} (h : OwnsS w (some ⟨g, 0, none⟩) c (ss ++ [⟨#[115, 112, 97, 114, 101]⟩, ⟨#[114, 111, 111, 109]⟩])) :
    w.cell? ⟨g, ss.length, none⟩ = some (.string ⟨#[115, 112, 97, 114, 101]⟩) ∧ w.cell? ⟨g, ss.length + 1, none⟩ = some (.string ⟨#[114, 111, 111, 109]⟩) := by
  have hl : (ss ++ [⟨#[115, 112, 97, 114, 101]⟩, ⟨#[114, 111, 111, 109]⟩] : List ByteArray).length = ss.length + 2 := by simp
  constructor
  · rw [World.ownsRow.cellAt h ss.length (by omega)]
    simp
  · rw [World.ownsRow.cellAt h (ss.length + 1) (by omega)]
    rw [List.getElem?_map, List.getElem?_append_right (by omega)]
    simp

set_option maxRecDepth 100000 in
set_option maxHeartbeats 0 in
theorem packKeeps_all (w : World) (o : Option Addr) (cap : Nat) (ps : List OpV) (hs : Script w o ps) (ob : Option Addr) (cb : Nat) (bs : List Nat) (hb : Sl w ob cb bs) (hlid : bs.length ≤ 140737488355326)
    (hls : ∀ p ∈ ps, (p.ss.length + 2) * 16 ≤ 140737488355328) :
    Calls Try.prog 3 #[.slice o ps.length cap, .slice ob bs.length cb] w fun e w' => e = .returned (.bool true) ∧ Keeps (fun _ => False) w w' := by
  obtain ⟨n, hn⟩ : ∃ n, n = ps.length := ⟨_, rfl⟩
  obtain ⟨nb, hnb⟩ : ∃ nb, nb = bs.length := ⟨_, rfl⟩
  rw [← hn, ← hnb]
  have HN : Hid (n = ps.length) := hn
  have HNB : Hid (nb = bs.length) := hnb
  have hn5 : n ≤ 140737488351232 := by have := hs.len; omega
  have hnb5 : nb ≤ 140737488355326 := by omega
  clear hn hnb hlid
  go_enter Try.func3, Try.ntmps3
  go_wp2_with fail
  refine (newWriter_any 1073741824 w (by omega) (by omega)).mono ?_
  rintro e w1 ⟨rfl, hW1, hk1⟩
  have hW1' : IsW 65 w1 w.heap.size none 0 1073741824 [] 0 := hW1
  obtain ⟨a, ha⟩ : ∃ a, a = w.heap.size := ⟨_, rfl⟩
  rw [← ha] at hW1' ⊢
  have HA : Hid (a = w.heap.size) := ha
  clear ha hW1
  go_wp2_with fail
  refine (newWriter_any 1073741824 w1 (by omega) (by omega)).mono ?_
  rintro e w2 ⟨rfl, hV2, hk2⟩
  have hV2' : IsW 65 w2 w1.heap.size none 0 1073741824 [] 0 := hV2
  obtain ⟨v, hv⟩ : ∃ v, v = w1.heap.size := ⟨_, rfl⟩
  rw [← hv] at hV2' ⊢
  have HV : Hid (v = w1.heap.size) := hv
  clear hv hV2
  have hW2 := hW1'.keeps hk2 (fun _ _ h => h)
  have hK2 := hk1.trans hk2
  have HOBL : Hid (bs ≠ [] → ∀ x, inO ob x → x < w.heap.size) := fun h0 => hb.row.blk_lt h0
  have hav : a < v := by rw [HV.out]; exact lt_of_block hW1'.blk
  have hb2 := hb.keeps hK2 (fun _ _ h => h)
  have hby := hb.row.1
  have r2 := fun u : World => row_lit u [171, 172] (by decide) (by decide)
  have e2 : (vals [171, 172]).toArray = #[Value.int .u8 171, Value.int .u8 172] := rfl
  rw [e2] at r2
  clear e2 hW1' hk1 hk2
  go_wp2_with (at_builtin; first
    | (refine wpList_app rfl _ _ rfl none 0 0 [] (by rfl) rfl (owns_nil w2) ob _ cb bs (by rfl) HNB.out hb2.nil hb2.row (by omega) ?_; intro o3 c3 w3 hown3 hfr3 hk3; rw [List.nil_append] at hown3)
    | (refine wpList_app rfl _ _ rfl o3 _ c3 bs (by rfl) (by have := HNB.out; omega) (hown3.alloc _) (some ⟨w3.heap.size, 0, none⟩) 2 2 [171, 172] (by rfl) rfl (by simp) (r2 w3) (by omega) ?_; intro oR cR w4 hown4 hfr4 hk4; have hnew3 : ∀ x, inO o3 x → w2.heap.size ≤ x := (fun x hx => by rcases hfr3.in x hx with ⟨y, hy, _⟩ | h'; cases hy; exact h'); have hkk3 : Keeps (fun _ => False) w2 w3 := hk3.mono (fun i ⟨x, h, _⟩ => by cases h); have hk24 : Keeps (fun _ => False) w2 w4 := (hkk3.alloc _).then hk4 (fun i hi => .inr (hnew3 i hi)); have hnewR : ∀ x, inO oR x → w2.heap.size ≤ x := (fun x hx => by rcases hfr4.in x hx with h' | h'; exact hnew3 x h'; have := hkk3.size; rw [World.size_alloc] at h'; omega); have hbyR : ∀ c ∈ bs ++ [171, 172], c < 256 := app_lt hby (by decide); have hslR := hown4.sl hbyR (by rw [List.length_append]; have := HNB.out; simp; omega); obtain ⟨A, dA, hcut, hslA, hsubA⟩ := cut_h w4 oR cR (bs ++ [171, 172]) (nb + 2) nb nb rfl (by rw [List.length_append, HNB.out]; rfl) (by omega) hslR))
  rw [List.take_append_of_le_length (by have := HNB.out; omega), List.take_of_length_le (by have := HNB.out; omega)] at hslA
  refine (newReader_any w4 A _ dA bs HNB.out hslA (by have := HNB.out; omega)).mono ?_
  rintro e w5 ⟨c, oQ, cQ, rfl, hR5, hf5, hk5⟩
  have hown5 := hown4.keeps hk5 (fun _ _ h => h)
  have HR5 : Hid (IsR 68 w5 c oQ cQ bs 0) := hR5
  have HOWN5 : Hid (Owns w5 oR cR (bs ++ [171, 172])) := hown5
  have HK5 : Hid (Keeps (fun _ => False) w2 w5) := hk24.trans hk5
  have HRlt : Hid (∀ x, inO oR x → x < w4.heap.size) := hown4.lt
  clear hslA hsubA hcut hslR hk4 hk3 hfr3 hfr4 hown3 hown4 hown5 hnew3 hkk3 hk24 hk5 r2 hR5 hb2
  go_wp2_with fail
  go_loopw [9] (fun i wr => ∃ (k : Nat) (ds : List Nat), k ≤ nb ∧ i = .int .i64 k ∧ ds.length = nb + 2 ∧ ds.drop nb = [171, 172] ∧ (∀ c ∈ ds, c < 256) ∧ Owns wr oR cR ds ∧ Keeps (inO oR) w5 wr) (fun i _ => nb - (intOf i).toNat)
  case atStart => exact ⟨0, bs ++ [171, 172], by omega, rfl, by rw [List.length_append, HNB.out]; rfl, by rw [List.drop_append_of_le_length (by have := HNB.out; omega), HNB.out, List.drop_length]; rfl, hbyR, HOWN5.out, Keeps.refl _ _⟩
  case round =>
    obtain ⟨k, ds, hk, rfl, hdl, hdd, hdb, hO, hKr⟩ := hrel
    by_cases hlt : k < nb
    · obtain ⟨g, rfl, hc, hf, hO2, hK2'⟩ := hO.store k (by omega) ((ds.getD k 0 + 1) % 256)
      have hxl := getD_lt ds hdb k (by omega)
      obtain ⟨x, hx⟩ : ∃ x, x = ds.getD k 0 := ⟨_, rfl⟩
      rw [← hx] at hc hO2 hK2' hxl
      have em : (((x + 1) % 256 : Nat) : Int) = ((x : Int) + 1) % 256 := by omega
      rw [em] at hO2 hK2'
      have HO2 : Hid (Owns (wr.setCell ⟨g, k, none⟩ (.int .u8 (((x : Int) + 1) % 256))) (some ⟨g, 0, none⟩) cR (ds.set k ((x + 1) % 256))) := hO2
      have HK2 : Hid (Keeps (inO (some ⟨g, 0, none⟩)) wr (wr.setCell ⟨g, k, none⟩ (.int .u8 (((x : Int) + 1) % 256)))) := hK2'
      have HDD : Hid (ds.drop nb = [171, 172]) := hdd
      have HDL : Hid (ds.length = nb + 2) := hdl
      have HDB : Hid (∀ c ∈ ds, c < 256) := hdb
      clear hO2 hK2' em hdd hdl hdb hx
      go_wp2_with fail
      go_roundw
      case rel =>
        refine ⟨k + 1, ds.set k ((x + 1) % 256), by omega, by go_num, by rw [List.length_set]; exact HDL.out, ?_, ?_, HO2.out, hKr.then HK2.out (fun _ h => .inl h)⟩
        · rw [List.drop_set_of_lt (by omega)]; exact HDD.out
        · intro c hc
          rcases List.mem_or_eq_of_mem_set hc with h | h
          · exact HDB.out c h
          · omega
      case measure => simp [intOf]; omega
    · obtain ⟨d1, d2⟩ := drop_two hdd
      have hr := hO.row hdb (by omega)
      obtain ⟨_, _, hr3⟩ := hr
      rcases hr3 with h0 | ⟨gb, go, eR, hc⟩
      · rw [h0] at hdl; simp at hdl
      have c1 := hc nb (by omega)
      have c2 := hc (nb + 1) (by omega)
      rw [d1] at c1
      rw [d2] at c2
      have HC : Hid (wr.cell? ⟨gb, go + nb, none⟩ = some (.int .u8 171) ∧ wr.cell? ⟨gb, go + (nb + 1), none⟩ = some (.int .u8 172)) := ⟨c1, c2⟩
      clear c1 c2 d1 d2 hdd hdb hc
      go_wp2_with fail
      refine (known_any wr).mono ?_
      rintro e w6 ⟨rfl, hk6⟩
      have c1 : w6.cell? ⟨gb, go + nb, none⟩ = some (.int .u8 171) := hk6.cell HC.out.1 (fun h => h)
      have c2 : w6.cell? ⟨gb, go + (nb + 1), none⟩ = some (.int .u8 172) := hk6.cell HC.out.2 (fun h => h)
      subst eR
      have hK6 : Keeps (fun _ => False) w2 w6 := (HK5.out.then hKr (fun x hx => .inr (hnewR x hx))).trans hk6
      have hKw6 : Keeps (fun _ => False) w w6 := hK2.trans hK6
      have hR6 : IsR 68 w6 c oQ cQ bs 0 := (HR5.out.keeps hKr (fun x hx hx' => by have := hf5 x hx; have := HRlt.out x hx'; omega)).keeps hk6 (fun _ _ h => h)
      have hcf : ∀ x, footW c oQ x → w2.heap.size ≤ x := fun x hx => by
        have h4 := hf5 x hx
        have h5 := HRlt.out gb ⟨_, rfl, rfl⟩
        have h6 := hnewR gb ⟨_, rfl, rfl⟩
        omega
      have HW6 : Hid (IsW 65 w6 a none 0 1073741824 [] 0) := hW2.keeps hK6 (fun _ _ h => h)
      have HV6 : Hid (IsW 65 w6 v none 0 1073741824 [] 0) := hV2'.keeps hK6 (fun _ _ h => h)
      have HB6 : Hid (Sl w6 ob cb bs) := hb.keeps hKw6 (fun _ _ h => h)
      have HR6 : Hid (IsR 68 w6 c oQ cQ bs 0) := hR6
      have HV2 : Hid (v < w2.heap.size) := lt_of_block hV2'.blk
      have HCF : Hid (∀ x, footW c oQ x → w2.heap.size ≤ x) := hcf
      have HKW6 : Hid (Keeps (fun _ => False) w w6) := hKw6
      go_wp2_with fail
      clear hK6 hKw6 hR6 hcf hKr hk6 hO hdl HC c1 c2 hW2 hV2' hb hf5 hnewR hbyR hK2 HR5 HOWN5 HK5 HRlt hlt hk
      go_loopw [10] (fun i wr => ∃ (k : Nat) (oQ2 : Option Addr) (cQ2 : Nat), k ≤ nb ∧ i = .int .i64 k ∧ IsR 68 wr c oQ2 cQ2 (bs.drop k) 0 ∧ SubO oQ oQ2 ∧ Keeps (fun x => x = c) w6 wr) (fun i _ => nb - (intOf i).toNat)
      case atStart => exact ⟨0, oQ, cQ, by omega, rfl, HR6.out, SubO.refl _, Keeps.refl _ _⟩
      case round =>
        rename World => wq
        obtain ⟨k, oQ2, cQ2, hk, rfl, hRq, hsub, hKq⟩ := hrel
        by_cases hlt : k < nb
        · have hkb : k < bs.length := by have := HNB.out; omega
          have hcge := HCF.out c (.inl rfl)
          have hrow := HB6.out.row.keeps hKq (fun x hx e => by
            have e' : x.block = c := e
            have h1 := HOBL.out (by intro h0; rw [h0] at hkb; simp at hkb) x.block ⟨x, hx, rfl⟩
            have h2 := HA.out
            have h3 := HV2.out
            omega)
          obtain ⟨_, _, hr3⟩ := hrow
          rcases hr3 with h0 | ⟨b1, f1, eb, hcb⟩
          · rw [h0] at hkb; simp at hkb
          have g1 := hcb k hkb
          have hdrop : bs.drop k = num 1 (bs.getD k 0) ++ bs.drop (k + 1) := by
            have hx : bs.getD k 0 = bs[k] := by simp [hkb]
            have hy := hby _ (List.getElem_mem hkb)
            have e : num 1 (bs.getD k 0) = [bs[k]] := by
              rw [hx]
              show [bs[k] % 256] = [bs[k]]
              rw [Nat.mod_eq_of_lt hy]
            rw [e, List.drop_eq_getElem_cons hkb]
            rfl
          have hxl := getD_lt bs hby k hkb
          obtain ⟨x, hx⟩ : ∃ x, x = bs.getD k 0 := ⟨_, rfl⟩
          rw [← hx] at g1 hdrop hxl
          have ern : rnum 1 (bs.drop k, 0) = (x, (bs.drop (k + 1), 0)) := by rw [hdrop, rnum_full]; simp; omega
          have HRN : Hid (rnum 1 (bs.drop k, 0) = (x, (bs.drop (k + 1), 0))) := ern
          have hb1c : b1 ≠ c := by
            have h1 := HOBL.out (by intro h0; rw [h0] at hkb; simp at hkb) b1 ⟨_, eb, rfl⟩
            have h2 := HA.out
            have h3 := HV2.out
            omega
          clear hcb hdrop hx ern
          subst eb
          go_wp2_with fail
          go_region_with (go_at_call 11; go_must (refine (rU8_any _ c oQ2 cQ2 (bs.drop k) 0 ?_).mono ?_); exact hRq.drewN 1; rw [HRN.out]; rintro e w7 ⟨rfl, hst7⟩; have hk7 : Keeps (fun k => k = c) wq w7 := (by obtain ⟨_, _, _, _, hk⟩ := hst7; exact (keeps_drewN _ wq 1).trans hk); have g1' : w7.cell? ⟨b1, f1 + k, none⟩ = some (.int .u8 (x : Nat)) := hk7.cell g1 hb1c)
          all_goals go_wp2_with fail
          all_goals
            go_roundw
            case rel =>
              obtain ⟨oQ3, cQ3, hR3, hs3, _⟩ := hst7
              exact ⟨k + 1, oQ3, cQ3, by omega, by go_num, hR3, hsub.trans hs3, hKq.trans hk7⟩
            case measure => simp [intOf]; omega
        · have hcge := HCF.out c (.inl rfl)
          have HH : Hid (Held w wq a none 0 [] 0 v none 0 [] 0 none 0 [] none 0 [] (fun k => if k = a then 1 else 2)) := by
            have hA := HA.out
            have hV := HV2.out
            refine ⟨HW6.out.keeps hKq ?_, HV6.out.keeps hKq ?_, ownsX_nil _, ownsX_nil _, rfl, fun i hi => by simp at hi, fun i hi => by simp at hi, ?_, ?_, ?_, ?_, fun i hi => by simp at hi, fun i hi => by simp at hi, HKW6.out.then hKq (fun x hx => .inr (by have : x = c := hx; omega))⟩
            · rintro x (rfl | ⟨y, hy, _⟩) e
              · have : x = c := e; omega
              · cases hy
            · rintro x (rfl | ⟨y, hy, _⟩) e
              · have : x = c := e; omega
              · cases hy
            · rintro x (rfl | ⟨y, hy, _⟩)
              · exact ⟨by simp, by omega⟩
              · cases hy
            · rintro x (rfl | ⟨y, hy, _⟩)
              · exact ⟨by show (if _ = a then 1 else 2) = 2; rw [if_neg (by omega)], by omega⟩
              · cases hy
            · rintro x ⟨y, hy, _⟩; cases hy
            · rintro x ⟨y, hy, _⟩; cases hy
          go_wp2_with fail
          clear hRq hsub hKq hlt hk HR6 HB6 HW6 HV6 HKW6 HCF hcge
          go_loopw [11, 12, 13] (fun l1 l2 i wr => ∃ (k : Nat) (oa : Option Addr) (ca : Nat) (sa : List Nat) (ae : Nat) (ov : Option Addr) (cv : Nat) (sv : List Nat) (ve : Nat) (oO : Option Addr) (cO : Nat) (xs : List SlV) (oE : Option Addr) (cE : Nat) (ys : List SlV) (own : Nat → Nat), k ≤ n ∧ k ≤ 40 ∧ i = .int .i64 k ∧ l1 = .slice oO (2 * k) cO ∧ l2 = .slice oE (2 * k) cE ∧ xs.length = 2 * k ∧ Held w wr a oa ca sa ae v ov cv sv ve oO cO xs oE cE ys own) (fun _ _ i _ => n - (intOf i).toNat)
          case atStart => exact ⟨0, none, 0, [], 0, none, 0, [], 0, none, 0, [], none, 0, [], _, by omega, by omega, rfl, rfl, rfl, rfl, HH.out⟩
          case round =>
            rename World => wr0
            obtain ⟨k, oa, ca, sa, ae, ov, cv, sv, ve, oO, cO, xs, oE, cE, ys, own, hk, hk40, rfl, rfl, rfl, hxl, hH⟩ := hrel
            clear HH
            have HXL : Hid (xs.length = 2 * k) := hxl
            clear hxl
            by_cases hlt : k < n ∧ k < 40
            · obtain ⟨hltn, hlt40⟩ := hlt
              have hks : k < ps.length := by have := HN.out; omega
              have hms : n - 1 - k < ps.length := by have := HN.out; omega
              have hpok0 := hs.ok _ (getD_mem ps k hks)
              have hqok0 := hs.ok _ (getD_mem ps (n - 1 - k) hms)
              have hlk := hls _ (getD_mem ps k hks)
              have hrw := hs.row
              rcases hrw with h0 | ⟨bb, off, rfl, _⟩
              · rw [h0] at hks; simp at hks
              obtain ⟨p, hp⟩ : ∃ p, p = ps.getD k op0 := ⟨_, rfl⟩
              obtain ⟨q, hq⟩ : ∃ q, q = ps.getD (n - 1 - k) op0 := ⟨_, rfl⟩
              rw [← hp] at hpok0 hlk
              rw [← hq] at hqok0
              have HP : Hid (p = ps.getD k op0) := hp
              have HQ : Hid (q = ps.getD (n - 1 - k) op0) := hq
              clear hp hq
              have hsr := hs.keeps hH.K
              obtain ⟨d0, d1, d2, d3, d4, d5⟩ := cells6 hsr hks HP.out
              have hbb : bb < w.heap.size := by
                rcases hs.row with h0 | ⟨b', off', e', hc'⟩
                · rw [h0] at hks; simp at hks
                · cases e'
                  exact World.block_lt_of_cell? w _ (hc' k hks 0 (by omega))
              have hpk := hpok0.keeps hH.K (fun _ _ _ h => h)
              have hka : Keeps (fun _ => False) wr0 (wr0.alloc (.cells #[.int .i64 p.kind, .int .u64 (p.v : Nat), .string p.s, .slice p.ol p.ss.length p.cl, .int .i64 p.N, .int .i64 p.M] 34)) := (Keeps.refl _ _).alloc _
              have HBX : Hid ((wr0.alloc (.cells #[.int .i64 p.kind, .int .u64 (p.v : Nat), .string p.s, .slice p.ol p.ss.length p.cl, .int .i64 p.N, .int .i64 p.M] 34)).heap[wr0.heap.size]? = some (.cells #[.int .i64 p.kind, .int .u64 (p.v : Nat), .string p.s, .slice p.ol p.ss.length p.cl, .int .i64 p.N, .int .i64 p.M] 34 (0, 0))) := blk_new _ _
              have HRS : Hid (RowS (wr0.alloc (.cells #[.int .i64 p.kind, .int .u64 (p.v : Nat), .string p.s, .slice p.ol p.ss.length p.cl, .int .i64 p.N, .int .i64 p.M] 34)) p.ol p.ss) := hpk.row.keeps hka (fun _ _ h => h)
              have HKA : Hid (Keeps (fun _ => False) wr0 (wr0.alloc (.cells #[.int .i64 p.kind, .int .u64 (p.v : Nat), .string p.s, .slice p.ol p.ss.length p.cl, .int .i64 p.N, .int .i64 p.M] 34))) := hka
              have HNIL : Hid (p.ol = none → p.cl = 0) := hpk.nil
              have HHK : Hid (Keeps (fun _ => False) w wr0) := hH.K
              clear hka
              go_wp2_with (at_builtin; first
                | (refine wpList_appL rfl _ _ rfl none 0 0 [] (by rfl) rfl (ownsS_nil _) p.ol _ p.cl p.ss (by rfl) rfl HNIL.out HRS.out (by omega) ?_; intro o1 c1 w5a hown1 hfr1 hk1; rw [List.nil_append] at hown1)
                | (refine wpList_appL rfl _ _ rfl o1 _ c1 p.ss (by rfl) (by simp) (hown1.alloc _) (some ⟨w5a.heap.size, 0, none⟩) 2 2 [⟨#[115, 112, 97, 114, 101]⟩, ⟨#[114, 111, 111, 109]⟩] (by rfl) rfl (by simp) (row_two w5a) (by omega) ?_; intro oL cL w6a hown2 hfr2 hk2; obtain ⟨g, rfl, HG, HO6, HK6, hcut, hcl6⟩ := lent_of HKA.out hown1 hfr1 hk1 hown2 hfr2 hk2; have d3b : w6a.cell? ⟨bb, off + k * 6 + 3, none⟩ = some (.slice p.ol p.ss.length p.cl) := HK6.out.cell d3 (fun h => h); have hbx6 := (lent_box HKA.out HBX.out hfr1 hk1 hk2); have b0 : w6a.cell? ⟨wr0.heap.size, 0, none⟩ = some (.int .i64 p.kind) := cell_of_blk hbx6 0; have b1 : w6a.cell? ⟨wr0.heap.size, 1, none⟩ = some (.int .u64 (p.v : Nat)) := cell_of_blk hbx6 1; have b2 : w6a.cell? ⟨wr0.heap.size, 2, none⟩ = some (.string p.s) := cell_of_blk hbx6 2; have b3 : w6a.cell? ⟨wr0.heap.size, 3, none⟩ = some (.slice p.ol p.ss.length p.cl) := cell_of_blk hbx6 3; have b4 : w6a.cell? ⟨wr0.heap.size, 4, none⟩ = some (.int .i64 p.N) := cell_of_blk hbx6 4; have b5 : w6a.cell? ⟨wr0.heap.size, 5, none⟩ = some (.int .i64 p.M) := cell_of_blk hbx6 5; have fz3 : w6a.frozen? ⟨wr0.heap.size, 3, none⟩ = false := frozen_of_blk hbx6 3))
              obtain ⟨bx, hbxd⟩ : ∃ bx, bx = wr0.heap.size := ⟨_, rfl⟩
              obtain ⟨w7, hw7⟩ : ∃ w7, w7 = w6a.setCell ⟨wr0.heap.size, 3, none⟩ (.slice (some ⟨g, 0, none⟩) p.ss.length cL) := ⟨_, rfl⟩
              have hbg : bx < g := by
                have h1 := HG.out.1
                rw [World.size_alloc] at h1
                omega
              have hk67 : Keeps (fun x => x = bx) w6a w7 := by rw [hw7, hbxd]; exact keeps_set _ _ _ _
              have hk07 : Keeps (fun _ => False) wr0 w7 := HK6.out.then hk67 (fun x hx => .inr (by have : x = bx := hx; omega))
              have hO7 : OwnsS w7 (some ⟨g, 0, none⟩) cL (p.ss ++ [⟨#[115, 112, 97, 114, 101]⟩, ⟨#[114, 111, 111, 109]⟩]) := HO6.out.keeps hk67 (fun x hx e => by
                obtain ⟨y, hy, rfl⟩ := hx
                cases hy
                have : g = bx := e
                omega)
              have hb7 : w7.heap[bx]? = some (.cells #[.int .i64 p.kind, .int .u64 (p.v : Nat), .string p.s, .slice (some ⟨g, 0, none⟩) p.ss.length cL, .int .i64 p.N, .int .i64 p.M] 34 (0, 0)) := by
                rw [hw7, hbxd, blk_set hbx6]; rfl
              have hH1 : Held w w7 a oa ca sa ae v ov cv sv ve oO cO xs oE cE ys (bump own wr0.heap.size 7) := (hH.retag wr0.heap.size 7 (Nat.le_refl _)).keepS hk07 (fun _ h => h.elim)
              have tb : bump own wr0.heap.size 7 bx = 7 := by unfold bump; rw [if_neg (by omega)]
              have tg : bump own wr0.heap.size 7 g = 7 := by unfold bump; rw [if_neg (by omega)]
              have hwb : w.heap.size ≤ bx := by have := hH.K.size; omega
              have hp7 : OpV.ok ⟨p.kind, p.v, p.s, some ⟨g, 0, none⟩, cL, p.ss, p.N, p.M⟩ w7 := ⟨hpok0.k1, hpok0.k2, hpok0.v1, hpok0.s1, hO7.row.front, fun x hx _ => hO7.lt x hx, (fun h => by cases h), hcl6.out, hpok0.l1, hpok0.l2, hpok0.n1, hpok0.n2, hpok0.m1, hpok0.m2⟩
              have hgl7 := hO7.lt g ⟨_, rfl, rfl⟩
              have hbl7 := lt_of_block hb7
              rw [← hw7, ← hbxd]
              have hHW := hH1.W
              refine (write_any w7 a oa ca 1073741824 sa ae ⟨p.kind, p.v, p.s, some ⟨g, 0, none⟩, cL, p.ss, p.N, p.M⟩ hp7 (fun x hx _ hf => ?_) hHW (.inr (by omega)) (Nat.le_trans (lay_le _ _ _ hHW.fit) (by omega))).mono ?_
              · obtain ⟨y, hy, rfl⟩ := hx
                cases hy
                have := (hH1.tw g hf).1
                omega
              rintro e w8 ⟨rfl, hst8⟩
              have hk8 : Keeps (footW a oa) w7 w8 := by obtain ⟨_, _, _, _, hk⟩ := hst8; exact hk
              have nb7 : ¬ footW a oa bx := fun hf => by have := (hH1.tw bx hf).1; omega
              have ng7 : ¬ footW a oa g := fun hf => by have := (hH1.tw g hf).1; omega
              have hb8 := hk8.at hb7 nb7
              have hO8 : OwnsS w8 (some ⟨g, 0, none⟩) cL (p.ss ++ [⟨#[115, 112, 97, 114, 101]⟩, ⟨#[114, 111, 111, 109]⟩]) := hO7.keeps hk8 (fun x hx => by obtain ⟨y, hy, rfl⟩ := hx; cases hy; exact ng7)
              obtain ⟨oa8, ca8, hH2⟩ := hH1.stepW hst8
              have tb2 : bump (bump own wr0.heap.size 7) w7.heap.size 1 bx = 7 := by show (if bx < w7.heap.size then _ else _) = 7; rw [if_pos hbl7]; exact tb
              have tg2 : bump (bump own wr0.heap.size 7) w7.heap.size 1 g = 7 := by show (if g < w7.heap.size then _ else _) = 7; rw [if_pos hgl7]; exact tg
              generalize bump (bump own wr0.heap.size 7) w7.heap.size 1 = own2 at hH2 tb2 tg2
              generalize lay 1073741824 (sa, ae) (OpV.news ⟨p.kind, p.v, p.s, some ⟨g, 0, none⟩, cL, p.ss, p.N, p.M⟩) = st8 at hH2
              obtain ⟨sa8, ae8⟩ := st8
              simp only at hH2
              have hs8 := hs.keeps hH2.K
              obtain ⟨d0, d1, d2, d3, d4, d5⟩ := cells6 hs8 hms HQ.out
              have hq8 := hqok0.keeps hH2.K (fun _ _ _ h => h)
              have eix : ((n : Int) - 1 - (k : Int)) = ((n - 1 - k : Nat) : Int) := by omega
              clear hst8 hk8 hw7 hb7 hO7 hH1 hH hHW hp7 hk07 hk67 HO6 HK6 hcut d3b hbx6 b0 b1 b2 b3 b4 b5 fz3 tb tg nb7 ng7 HBX HRS HKA HNIL HHK hown1 hown2 hfr1 hfr2 hk1 hk2 hsr hpk
              go_wp2_with fail
              have hHV := hH2.V
              refine (write_any w8 v ov cv 1073741824 sv ve q hq8 (fun x hx h0 => tag_old hH2.tv (hqok0.live x hx h0)) hHV (.inr (by omega)) (Nat.le_trans (lay_le _ _ _ hHV.fit) (by omega))).mono ?_
              rintro e w9 ⟨rfl, hst9⟩
              have hk9 : Keeps (footW v ov) w8 w9 := by obtain ⟨_, _, _, _, hk⟩ := hst9; exact hk
              have nb8 : ¬ footW v ov bx := fun hf => by have := (hH2.tv bx hf).1; omega
              have ng8 : ¬ footW v ov g := fun hf => by have := (hH2.tv g hf).1; omega
              have hb9 := hk9.at hb8 nb8
              have hO9 : OwnsS w9 (some ⟨g, 0, none⟩) cL (p.ss ++ [⟨#[115, 112, 97, 114, 101]⟩, ⟨#[114, 111, 111, 109]⟩]) := hO8.keeps hk9 (fun x hx => by obtain ⟨y, hy, rfl⟩ := hx; cases hy; exact ng8)
              have hbl8 := lt_of_block hb8
              have hgl8 := hO8.lt g ⟨_, rfl, rfl⟩
              obtain ⟨ov9, cv9, hH3⟩ := hH2.stepV hst9
              have tb3 : bump own2 w8.heap.size 2 bx = 7 := by show (if bx < w8.heap.size then _ else _) = 7; rw [if_pos hbl8]; exact tb2
              have tg3 : bump own2 w8.heap.size 2 g = 7 := by show (if g < w8.heap.size then _ else _) = 7; rw [if_pos hgl8]; exact tg2
              generalize bump own2 w8.heap.size 2 = own3 at hH3 tb3 tg3
              generalize lay 1073741824 (sv, ve) q.news = st9 at hH3
              obtain ⟨sv9, ve9⟩ := st9
              simp only at hH3
              have hs9 := hs.keeps hH3.K
              have d3 := (cells6 hs9 hks HP.out).2.2.2.1
              have HROW1 : Hid (RowS w9 (some ⟨g, 0, none⟩) p.ss) := hO9.row.front
              have HROW2 : Hid (RowS w9 p.ol p.ss) := (hpok0.keeps hH3.K (fun _ _ _ h => h)).row
              have b3 : w9.cell? ⟨wr0.heap.size, 3, none⟩ = some (.slice (some ⟨g, 0, none⟩) p.ss.length cL) := by rw [← hbxd]; exact cell_of_blk hb9 3
              obtain ⟨l1, l2⟩ := lent_ends hO9
              have HTB : Hid (own3 bx = 7 ∧ own3 g = 7) := ⟨tb3, tg3⟩
              have HB9 : Hid (w9.heap[bx]? = some (.cells #[.int .i64 p.kind, .int .u64 (p.v : Nat), .string p.s, .slice (some ⟨g, 0, none⟩) p.ss.length cL, .int .i64 p.N, .int .i64 p.M] 34 (0, 0))) := hb9
              have hlen5 : p.ss.length ≤ 140737488355328 := by omega
              clear hst9 hk9 hb8 hb9 hO8 hH2 hHV tb2 tg2 tb3 tg3 nb8 ng8 d0 d1 d2 d4 d5 hq8 hs8 hs9 eix
              go_upto_region 25 with fail
              go_quiet ((go_at_call 13; refine Calls.quiet_of (sameTexts_true _ (some ⟨g, 0, none⟩) _ cL p.ol _ p.cl p.ss rfl rfl hlen5 ?_ ?_); exact HROW1.out.keeps (keeps_drewN (fun _ => False) w9 _) (fun _ _ h => h); exact HROW2.out.keeps (keeps_drewN (fun _ => False) w9 _) (fun _ _ h => h)))
              have hk10 := keeps_drewN (fun _ => False) w9 nq
              have hH4 := hH3.keepS hk10 (fun _ h => h.elim)
              have HO10 : Hid (OwnsS (w9.drewN nq) (some ⟨g, 0, none⟩) cL (p.ss ++ [⟨#[115, 112, 97, 114, 101]⟩, ⟨#[114, 111, 111, 109]⟩])) := hO9.keeps hk10 (fun _ _ h => h)
              have HB10 : Hid ((w9.drewN nq).heap[bx]? = some (.cells #[.int .i64 p.kind, .int .u64 (p.v : Nat), .string p.s, .slice (some ⟨g, 0, none⟩) p.ss.length cL, .int .i64 p.N, .int .i64 p.M] 34 (0, 0))) := HB9.out
              have HH4 : Hid (Held w (w9.drewN nq) a oa8 ca8 sa8 ae8 v ov9 cv9 sv9 ve9 oO cO xs oE cE ys own3) := hH4
              have HBG : Hid (bx ≠ g) := by have := hbg; show _ ≠ _; omega
              clear hH3 hH4 hk10 hO9 l1 l2 HROW1 HROW2 HB9 d3
              go_wp2_with fail
              go_loopw [16] (fun i wr => ∃ (j : Nat) (ts : List ByteArray), j ≤ p.ss.length ∧ i = .int .i64 j ∧ ts.length = p.ss.length + 2 ∧ OwnsS wr (some ⟨g, 0, none⟩) cL ts ∧ Keeps (fun x => x = g) (w9.drewN nq) wr) (fun i _ => p.ss.length - (intOf i).toNat)
              case atStart => exact ⟨0, _, by omega, rfl, by simp, HO10.out, Keeps.refl _ _⟩
              case round =>
                rename World => wl
                obtain ⟨j, ts, hj, rfl, htl, hOl, hKl⟩ := hrel
                have hbl := hKl.at HB10.out HBG.out
                have b3l : wl.cell? ⟨wr0.heap.size, 3, none⟩ = some (.slice (some ⟨g, 0, none⟩) p.ss.length cL) := by rw [← hbxd]; exact cell_of_blk hbl 3
                clear b3
                by_cases hlj : j < p.ss.length
                · obtain ⟨s1, s2, s3, s4⟩ := hOl.store j (by omega) ⟨#[63]⟩
                  have HS3 : Hid (OwnsS (wl.setCell ⟨g, j, none⟩ (.string ⟨#[63]⟩)) (some ⟨g, 0, none⟩) cL (ts.set j ⟨#[63]⟩)) := s3
                  have HS4 : Hid (Keeps (fun k => k = g) wl (wl.setCell ⟨g, j, none⟩ (.string ⟨#[63]⟩))) := s4
                  have HTL : Hid (ts.length = p.ss.length + 2) := htl
                  clear s3 s4 htl
                  go_wp2_with fail
                  go_roundw
                  case rel => exact ⟨j + 1, _, by omega, by go_num, by rw [List.length_set]; exact HTL.out, HS3.out, hKl.trans HS4.out⟩
                  case measure => simp [intOf]; omega
                · have hH5 := HH4.out.keepS hKl (fun z hz => by
                    have : z = g := hz
                    rw [this]
                    exact ⟨HTB.out.2, by omega⟩)
                  clear hKl hOl htl hbl HO10 HB10 HH4
                  go_wp2_with fail
                  refine (wOut_any wl a oa8 ca8 1073741824 sa8 ae8 hH5.W).mono ?_
                  intro e w11 hout
                  obtain ⟨hk11, x1, rfl, hx1, hnx1, hbx1, hlx1, hxe⟩ := hout.told hH5.W.byt hH5.W.fit
                  clear hxe
                  have hH6 := (hH5.retag wl.heap.size (10 + xs.length) (Nat.le_refl _)).keepS hk11 (fun _ h => h.elim)
                  have tx1 : Tag w.heap.size (bump own3 wl.heap.size (10 + xs.length)) (10 + xs.length) (inO x1.o) := tag_new _ _ _ hnx1 hH5.K.size
                  generalize bump own3 wl.heap.size (10 + xs.length) = own4 at hH6 tx1
                  clear hout hH5 hk11 hnx1 b3l hlj hj
                  go_wp2_with fail
                  refine (wOut_any w11 v ov9 cv9 1073741824 sv9 ve9 hH6.V).mono ?_
                  intro e w12 hout
                  obtain ⟨hk12, y1, rfl, hy1, hny1, hby1, hly1, hye⟩ := hout.told hH6.V.byt hH6.V.fit
                  clear hye
                  have hH7 := (hH6.retag w11.heap.size (10 + (xs.length + 1)) (Nat.le_refl _)).keepS hk12 (fun _ h => h.elim)
                  have ty1 : Tag w.heap.size (bump own4 w11.heap.size (10 + (xs.length + 1))) (10 + (xs.length + 1)) (inO y1.o) := tag_new _ _ _ hny1 hH6.K.size
                  have tx2 := tx1.bump w11.heap.size (10 + (xs.length + 1)) hx1.lt
                  have hx12 := hx1.keeps hk12 (fun _ _ h => h)
                  generalize bump own4 w11.heap.size (10 + (xs.length + 1)) = own5 at hH7 tx2 ty1
                  have HAX : Hid (∀ z, inO x1.o z → ¬ inO oO z) := tx2.apart hH7.tO (by omega)
                  have HAY : Hid (∀ z, inO y1.o z → ¬ inO oO z) := ty1.apart hH7.tO (by omega)
                  have HOE : Hid (∀ z, inO oE z → ¬ inO oO z) := hH7.tE.apart hH7.tO (by omega)
                  have HX12 : Hid (Owns w12 x1.o x1.c x1.bs) := hx12
                  have HY12 : Hid (Owns w12 y1.o y1.c y1.bs) := hy1
                  have HO12 : Hid (OwnsX w12 oO cO xs) := hH7.O
                  have HE12 : Hid (OwnsX w12 oE cE ys) := hH7.E
                  have HBX1 : Hid (∀ c ∈ x1.bs, c < 256) := hbx1
                  have HBY1 : Hid (∀ c ∈ y1.bs, c < 256) := hby1
                  have HH7 : Hid (Held w w12 a oa8 ca8 sa8 ae8 v ov9 cv9 sv9 ve9 oO cO xs oE cE ys own5) := hH7
                  have HLY : Hid (ys.length = 2 * k) := hH7.len.trans HXL.out
                  have HTX : Hid (Tag w.heap.size own5 (10 + xs.length) (inO x1.o)) := tx2
                  have HTY : Hid (Tag w.heap.size own5 (10 + (xs.length + 1)) (inO y1.o)) := ty1
                  clear hout hH6 hk12 hny1 tx1 tx2 ty1 hx12 hx1 hy1 hbx1 hby1 hH7
                  go_wp2_with (at_builtin; first
                    | (refine wpList_appX rfl _ _ rfl oO _ cO xs (by rfl) HXL.out.symm (HO12.out.alloc _) ⟨w12.heap.size, 0, none⟩ 2 2 [x1, y1] (by rfl) rfl (rowX_two w12 x1 y1) (by omega) ?_; intro oO3 cO3 w13 O13 fO13 kO13; have HX13 : Hid (Owns w13 x1.o x1.c x1.bs) := (HX12.out.alloc _).keeps kO13 HAX.out; have HY13 : Hid (Owns w13 y1.o y1.c y1.bs) := (HY12.out.alloc _).keeps kO13 HAY.out; have HE13 : Hid (OwnsX w13 oE cE ys) := (HE12.out.alloc _).keeps kO13 HOE.out; have HO13 : Hid (OwnsX w13 oO3 cO3 (xs ++ [x1, y1])) := O13; have HF13 : Hid (Fresh (w12.alloc (.cells #[.slice x1.o x1.bs.length x1.c, .slice y1.o y1.bs.length y1.c] 23)) oO oO3) := fO13; have HKO13 : Hid (Keeps (inO oO) (w12.alloc (.cells #[.slice x1.o x1.bs.length x1.c, .slice y1.o y1.bs.length y1.c] 23)) w13) := kO13; clear O13 fO13 kO13)
                    | (refine wpList_app rfl _ _ rfl none 0 0 [] (by rfl) rfl (owns_nil w13) x1.o _ x1.c x1.bs (by rfl) rfl HX13.out.cap.2 (HX13.out.row HBX1.out (by omega)) (by omega) ?_; intro o14 c14 w14 hown14 hfr14 hk14; rw [List.nil_append] at hown14; have HK14 : Hid (Keeps (fun _ => False) w13 w14) := hk14.mono (fun i ⟨x, h, _⟩ => by cases h); have HO14 : Hid (Owns w14 o14 c14 x1.bs) := hown14; have HF14 : Hid (Fresh w13 none o14) := hfr14; have HY14 : Hid (Owns w14 y1.o y1.c y1.bs) := HY13.out.keeps HK14.out (fun _ _ h => h); clear hown14 hfr14 hk14)
                    | (refine wpList_app rfl _ _ rfl none 0 0 [] (by rfl) rfl (owns_nil w14) y1.o _ y1.c y1.bs (by rfl) rfl HY14.out.cap.2 (HY14.out.row HBY1.out (by omega)) (by omega) ?_; intro o15 c15 w15 hown15 hfr15 hk15; rw [List.nil_append] at hown15; have HK15 : Hid (Keeps (fun _ => False) w14 w15) := hk15.mono (fun i ⟨x, h, _⟩ => by cases h); have HO15 : Hid (Owns w15 o15 c15 y1.bs) := hown15; have HF15 : Hid (Fresh w14 none o15) := hfr15; have HE15 : Hid (OwnsX w15 oE cE ys) := (HE13.out.keeps HK14.out (fun _ _ h => h)).keeps HK15.out (fun _ _ h => h); clear hown15 hfr15 hk15)
                    | (refine wpList_appX rfl _ _ rfl oE _ cE ys (by rfl) HLY.out.symm (HE15.out.alloc _) ⟨w15.heap.size, 0, none⟩ 2 2 [⟨o14, c14, x1.bs⟩, ⟨o15, c15, y1.bs⟩] (by rfl) rfl (rowX_two w15 ⟨o14, c14, x1.bs⟩ ⟨o15, c15, y1.bs⟩) (by omega) ?_; intro oE6 cE6 w16 E16 fE16 kE16))
                  all_goals obtain ⟨own8, hH8⟩ := HH7.out.push_all HX12.out HBX1.out hlx1 HY12.out HBY1.out hly1 HTX.out HTY.out HO13.out HF13.out HKO13.out HK14.out HO14.out HF14.out HK15.out HO15.out HF15.out E16 fE16 kE16
                  all_goals clear HH7 HX12 HY12 HO12 HE12 HO13 HF13 HKO13 HX13 HY13 HE13 HK14 HO14 HF14 HY14 HK15 HO15 HF15 HE15 E16 fE16 kE16 HTX HTY HAX HAY HOE
                  all_goals have HL2 : Hid ((xs ++ [x1, y1]).length = 2 * k + 2) := by show _ = _; rw [List.length_append, HXL.out]; rfl
                  rotate_left
                  · go_roundw
                    case rel => exact ⟨k + 1, oa8, ca8, sa8, ae8, ov9, cv9, sv9, ve9, oO3, cO3, _, oE6, cE6, _, own8, by omega, by omega, by go_num, by rw [show 2 * (k + 1) = 2 * k + 2 by omega], by rw [show 2 * (k + 1) = 2 * k + 2 by omega], by rw [HL2.out]; omega, hH8⟩
                    case measure => simp [intOf]; omega
                  · refine (wOut_any w16 a oa8 ca8 1073741824 sa8 ae8 hH8.W).mono ?_
                    intro e z1 hout
                    obtain ⟨hkz1, xA, rfl, hxA, hnxA, hbxA, hlxA, hxeA⟩ := hout.told hH8.W.byt hH8.W.fit
                    have HXE : Hid (xA.bs = if ae8 = 0 then sa8 else []) := hxeA
                    have hZ := hH8.keepS hkz1 (fun _ h => h.elim)
                    have HBL : Hid (∀ z, Blocks (xs ++ [x1, y1]) z → z < w16.heap.size ∧ w.heap.size ≤ z ∧ ∃ i, own8 z = 10 + i) := fun z ⟨i, hi, hin⟩ => ⟨(hH8.x i hi).1.lt z hin, (hH8.tx i hi z hin).2, i, (hH8.tx i hi z hin).1⟩
                    have hsz1 := hkz1.size
                    clear hxeA hout
                    go_wp2_with (at_builtin; go_must (refine wpList_app rfl _ _ rfl none 0 0 [] (by rfl) rfl (owns_nil z1) xA.o _ xA.c xA.bs (by rfl) rfl hxA.cap.2 (hxA.row hbxA (by omega)) (by omega) ?_); intro oK cK z2 hownK hfrK hkK; rw [List.nil_append] at hownK)
                    have hkK2 : Keeps (fun _ => False) z1 z2 := hkK.mono (fun i ⟨x, h, _⟩ => by cases h)
                    have hZ2 := hZ.keepS hkK2 (fun _ h => h.elim)
                    have hxA2 := hxA.keeps hkK2 (fun _ _ h => h)
                    refine (marked_to z2 oO3 cO3 (xs ++ [x1, y1]) oE6 cE6 (ys ++ [⟨o14, c14, x1.bs⟩, ⟨o15, c15, y1.bs⟩]) own8 _ _ HL2.out.symm (by rw [hH8.len]; exact HL2.out.symm) (hZ2.marks (by rw [HL2.out]; omega))).mono ?_
                    rintro e z3 ⟨rfl, hk3⟩
                    have hW3 := hZ2.W.keeps hk3 (fun z hz hB => by
                      obtain ⟨_, _, i, hi⟩ := HBL.out z hB
                      have := (hZ2.tw z hz).1
                      omega)
                    have hK3 : Keeps (fun _ => False) w z3 := hZ2.K.then hk3 (fun z hB => .inr (HBL.out z hB).2.1)
                    have HxA3 : Hid (Owns z3 xA.o xA.c xA.bs) := hxA2.keeps hk3 (fun z hz hB => by
                      have := (HBL.out z hB).1
                      have := hnxA z hz
                      omega)
                    have HK3 : Hid (Owns z3 oK cK xA.bs) := hownK.keeps hk3 (fun z hz hB => by
                      have := (HBL.out z hB).1
                      rcases hfrK.in z hz with ⟨y, hy, _⟩ | h'
                      · cases hy
                      · omega)
                    clear hkK hkK2 hfrK hownK hxA2 hxA hZ hZ2 hnxA hkz1
                    go_wp2_with fail
                    refine (wOut_any z3 a oa8 ca8 1073741824 sa8 ae8 hW3).mono ?_
                    intro e z4 hout
                    obtain ⟨hk4, xB, rfl, hxB, _, hbxB, hlxB, hxeB⟩ := hout.told hW3.byt hW3.fit
                    have hAB : xB.bs = xA.bs := by rw [hxeB, HXE.out]
                    have HAB : Hid (xB.bs = xA.bs) := hAB
                    have HXB : Hid (Owns z4 xB.o xB.c xB.bs) := hxB
                    clear hxeB hAB hout hxB
                    go_wp2_with fail
                    refine (same_eq z4 xB.o _ xB.c oK _ cK xA.bs (by rw [HAB.out]) rfl (by have := HXB.out.row hbxB (by omega); rw [HAB.out] at this; exact this) ((HK3.out.keeps hk4 (fun _ _ h => h)).row hbxA (by omega))).mono ?_
                    rintro e z5 ⟨rfl, rfl⟩
                    go_wp2_with fail
                    refine (same_eq z5 xA.o _ xA.c oK _ cK xA.bs rfl rfl ((HxA3.out.keeps hk4 (fun _ _ h => h)).row hbxA (by omega)) ((HK3.out.keeps hk4 (fun _ _ h => h)).row hbxA (by omega))).mono ?_
                    rintro e z6 ⟨rfl, rfl⟩
                    go_wp2
                    go_ret
                    exact ⟨rfl, hK3.trans hk4⟩
            · have hcond : ¬ (k < n ∧ k < 40) := hlt
              by_cases hkn : k < n
              · have hk4 : ¬ k < 40 := fun h => hlt ⟨hkn, h⟩
                clear hlt hcond
                go_wp2_with fail
                refine (wOut_any wr0 a oa ca 1073741824 sa ae hH.W).mono ?_
                intro e z1 hout
                obtain ⟨hkz1, xA, rfl, hxA, hnxA, hbxA, hlxA, hxeA⟩ := hout.told hH.W.byt hH.W.fit
                have HXE : Hid (xA.bs = if ae = 0 then sa else []) := hxeA
                have hZ := hH.keepS hkz1 (fun _ h => h.elim)
                have HBL : Hid (∀ z, Blocks xs z → z < wr0.heap.size ∧ w.heap.size ≤ z ∧ ∃ i, own z = 10 + i) := fun z ⟨i, hi, hin⟩ => ⟨(hH.x i hi).1.lt z hin, (hH.tx i hi z hin).2, i, (hH.tx i hi z hin).1⟩
                have hsz1 := hkz1.size
                clear hxeA hout
                go_wp2_with (at_builtin; go_must (refine wpList_app rfl _ _ rfl none 0 0 [] (by rfl) rfl (owns_nil z1) xA.o _ xA.c xA.bs (by rfl) rfl hxA.cap.2 (hxA.row hbxA (by omega)) (by omega) ?_); intro oK cK z2 hownK hfrK hkK; rw [List.nil_append] at hownK)
                have hkK2 : Keeps (fun _ => False) z1 z2 := hkK.mono (fun i ⟨x, h, _⟩ => by cases h)
                have hZ2 := hZ.keepS hkK2 (fun _ h => h.elim)
                have hxA2 := hxA.keeps hkK2 (fun _ _ h => h)
                refine (marked_to z2 oO cO xs oE cE ys own _ _ HXL.out.symm (by rw [hH.len]; exact HXL.out.symm) (hZ2.marks (by have := HXL.out; omega))).mono ?_
                rintro e z3 ⟨rfl, hk3⟩
                have hW3 := hZ2.W.keeps hk3 (fun z hz hB => by
                  obtain ⟨_, _, i, hi⟩ := HBL.out z hB
                  have := (hZ2.tw z hz).1
                  omega)
                have hK3 : Keeps (fun _ => False) w z3 := hZ2.K.then hk3 (fun z hB => .inr (HBL.out z hB).2.1)
                have HxA3 : Hid (Owns z3 xA.o xA.c xA.bs) := hxA2.keeps hk3 (fun z hz hB => by
                  have := (HBL.out z hB).1
                  have := hnxA z hz
                  omega)
                have HK3 : Hid (Owns z3 oK cK xA.bs) := hownK.keeps hk3 (fun z hz hB => by
                  have := (HBL.out z hB).1
                  rcases hfrK.in z hz with ⟨y, hy, _⟩ | h'
                  · cases hy
                  · omega)
                clear hkK hkK2 hfrK hownK hxA2 hxA hZ hZ2 hnxA hkz1
                go_wp2_with fail
                refine (wOut_any z3 a oa ca 1073741824 sa ae hW3).mono ?_
                intro e z4 hout
                obtain ⟨hk4, xB, rfl, hxB, _, hbxB, hlxB, hxeB⟩ := hout.told hW3.byt hW3.fit
                have hAB : xB.bs = xA.bs := by rw [hxeB, HXE.out]
                have HAB : Hid (xB.bs = xA.bs) := hAB
                have HXB : Hid (Owns z4 xB.o xB.c xB.bs) := hxB
                clear hxeB hAB hout hxB
                go_wp2_with fail
                refine (same_eq z4 xB.o _ xB.c oK _ cK xA.bs (by rw [HAB.out]) rfl (by have := HXB.out.row hbxB (by omega); rw [HAB.out] at this; exact this) ((HK3.out.keeps hk4 (fun _ _ h => h)).row hbxA (by omega))).mono ?_
                rintro e z5 ⟨rfl, rfl⟩
                go_wp2_with fail
                refine (same_eq z5 xA.o _ xA.c oK _ cK xA.bs rfl rfl ((HxA3.out.keeps hk4 (fun _ _ h => h)).row hbxA (by omega)) ((HK3.out.keeps hk4 (fun _ _ h => h)).row hbxA (by omega))).mono ?_
                rintro e z6 ⟨rfl, rfl⟩
                go_wp2
                go_ret
                exact ⟨rfl, hK3.trans hk4⟩
              · clear hlt hcond
                go_wp2_with fail
                refine (wOut_any wr0 a oa ca 1073741824 sa ae hH.W).mono ?_
                intro e z1 hout
                obtain ⟨hkz1, xA, rfl, hxA, hnxA, hbxA, hlxA, hxeA⟩ := hout.told hH.W.byt hH.W.fit
                have HXE : Hid (xA.bs = if ae = 0 then sa else []) := hxeA
                have hZ := hH.keepS hkz1 (fun _ h => h.elim)
                have HBL : Hid (∀ z, Blocks xs z → z < wr0.heap.size ∧ w.heap.size ≤ z ∧ ∃ i, own z = 10 + i) := fun z ⟨i, hi, hin⟩ => ⟨(hH.x i hi).1.lt z hin, (hH.tx i hi z hin).2, i, (hH.tx i hi z hin).1⟩
                have hsz1 := hkz1.size
                clear hxeA hout
                go_wp2_with (at_builtin; go_must (refine wpList_app rfl _ _ rfl none 0 0 [] (by rfl) rfl (owns_nil z1) xA.o _ xA.c xA.bs (by rfl) rfl hxA.cap.2 (hxA.row hbxA (by omega)) (by omega) ?_); intro oK cK z2 hownK hfrK hkK; rw [List.nil_append] at hownK)
                have hkK2 : Keeps (fun _ => False) z1 z2 := hkK.mono (fun i ⟨x, h, _⟩ => by cases h)
                have hZ2 := hZ.keepS hkK2 (fun _ h => h.elim)
                have hxA2 := hxA.keeps hkK2 (fun _ _ h => h)
                refine (marked_to z2 oO cO xs oE cE ys own _ _ HXL.out.symm (by rw [hH.len]; exact HXL.out.symm) (hZ2.marks (by have := HXL.out; omega))).mono ?_
                rintro e z3 ⟨rfl, hk3⟩
                have hW3 := hZ2.W.keeps hk3 (fun z hz hB => by
                  obtain ⟨_, _, i, hi⟩ := HBL.out z hB
                  have := (hZ2.tw z hz).1
                  omega)
                have hK3 : Keeps (fun _ => False) w z3 := hZ2.K.then hk3 (fun z hB => .inr (HBL.out z hB).2.1)
                have HxA3 : Hid (Owns z3 xA.o xA.c xA.bs) := hxA2.keeps hk3 (fun z hz hB => by
                  have := (HBL.out z hB).1
                  have := hnxA z hz
                  omega)
                have HK3 : Hid (Owns z3 oK cK xA.bs) := hownK.keeps hk3 (fun z hz hB => by
                  have := (HBL.out z hB).1
                  rcases hfrK.in z hz with ⟨y, hy, _⟩ | h'
                  · cases hy
                  · omega)
                clear hkK hkK2 hfrK hownK hxA2 hxA hZ hZ2 hnxA hkz1
                go_wp2_with fail
                refine (wOut_any z3 a oa ca 1073741824 sa ae hW3).mono ?_
                intro e z4 hout
                obtain ⟨hk4, xB, rfl, hxB, _, hbxB, hlxB, hxeB⟩ := hout.told hW3.byt hW3.fit
                have hAB : xB.bs = xA.bs := by rw [hxeB, HXE.out]
                have HAB : Hid (xB.bs = xA.bs) := hAB
                have HXB : Hid (Owns z4 xB.o xB.c xB.bs) := hxB
                clear hxeB hAB hout hxB
                go_wp2_with fail
                refine (same_eq z4 xB.o _ xB.c oK _ cK xA.bs (by rw [HAB.out]) rfl (by have := HXB.out.row hbxB (by omega); rw [HAB.out] at this; exact this) ((HK3.out.keeps hk4 (fun _ _ h => h)).row hbxA (by omega))).mono ?_
                rintro e z5 ⟨rfl, rfl⟩
                go_wp2_with fail
                refine (same_eq z5 xA.o _ xA.c oK _ cK xA.bs rfl rfl ((HxA3.out.keeps hk4 (fun _ _ h => h)).row hbxA (by omega)) ((HK3.out.keeps hk4 (fun _ _ h => h)).row hbxA (by omega))).mono ?_
                rintro e z6 ⟨rfl, rfl⟩
                go_wp2
                go_ret
                exact ⟨rfl, hK3.trans hk4⟩
end Go.Proofs.Ytclheacjhkoocaa

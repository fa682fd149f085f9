/- known: the chapter's first two examples. -/
import Derived.Test.YtjklpcamlppegaaGreatS2
namespace Go.Proofs.YtjklpcamlppegaaGreat
open Go.RowKit Go.Sort Orl Pk
set_option linter.unusedVariables false
set_option linter.unusedSimpArgs false

theorem Owns.sl' {w : World} {o : Option Addr} {c : Nat} {bs : List Nat} (h : Owns w o c bs) (hby : ∀ c ∈ bs, c < 256) (hl : bs.length ≤ 9223372036854775807) : BSl w o c bs := ⟨h.row hby hl, h.cap.1, h.cap.2⟩
def km : Msg := ⟨2, 3, 5, 65539, [], [], [], []⟩
def ta : Tx := ⟨#[97]⟩
def tb : Tx := ⟨#[98]⟩
def tx : Tx := ⟨#[120]⟩
def km2 : Msg := ⟨1, 0, 1, 65536, [ta, tb], [(ta, tx)], [], []⟩
theorem km_may : may km = true := by decide
theorem km_len : (body km).length = 18 := by decide
theorem km_enc : enc km = [0, 0, 0, 18, 2, 3, 0, 0, 0, 0, 0, 0, 0, 5, 0, 0, 0, 0, 0, 1, 0, 3] := by decide
theorem km_encE : encE km = 0 ∧ encB km = enc km := encE_ok km_may (by rw [km_len]; omega)
theorem km_rng : Rng km := ⟨by decide, by decide, by decide, by decide, by decide, by decide, fun p hp => by simp [km] at hp, fun p hp => by simp [km] at hp⟩
theorem km_fit : FitM km := ⟨by simp [km], fun p hp => by simp [km] at hp, by simp [km], fun p hp => by simp [km] at hp, by simp [km], fun p hp => by simp [km] at hp, by simp [km], fun p hp => by simp [km] at hp⟩
theorem km_dec : dec (enc km) = (km, 0) := dec_enc km km_may km_rng (by rw [km_len]; omega)
theorem ta_ne : ta ≠ tb := by
  intro e
  have := congrArg (fun x => x.data.toList) e
  simp [ta, tb] at this
theorem val_ab : valK [ta, tb] = true := by
  have hr : rising lts (isT [ta, tb]) = true := (isort_rising swoT triT e0 [ta, tb]).2 (by simp [ta_ne])
  unfold valK
  rw [hr]
  decide
theorem lts_ab : lts ta tb = true := by rw [lts_eq]; decide
theorem rise_ab : rising lts [ta, tb] = true := by
  rw [rising_iff swoT]
  simp [Inc, lts_ab]
theorem val_a : valK [ta] = true := by
  have hr : rising lts (isT [ta]) = true := (isort_rising swoT triT e0 [ta]).2 (by simp)
  unfold valK
  rw [hr]
  decide
theorem km2_may : may km2 = true := by
  have h1 : wset [ta, tb] = true := by unfold wset; rw [val_ab, rise_ab]; rfl
  have h2 : valP [(ta, tx)] = true := by
    unfold valP
    have : kys [(ta, tx)] = [ta] := rfl
    rw [this, val_a]
    decide
  have h3 : rising lts (kys [(ta, tx)]) = true := by
    have : kys [(ta, tx)] = [ta] := rfl
    rw [this, rising_iff swoT]; simp [Inc]
  have h4 : sub (kys [(ta, tx)]) [ta, tb] = true := by
    have : kys [(ta, tx)] = [ta] := rfl
    rw [this]
    unfold sub
    simp [inn]
  have h5 : mayP [(ta, tx)] [ta, tb] = true := by unfold mayP; rw [h2, h3, h4]; rfl
  unfold may topOk mayF km2
  simp only [if_true]
  rw [h1, h5]
  decide
theorem km2_len : (body km2).length = 46 := by decide
theorem km2_rng : Rng km2 := ⟨by decide, by decide, by decide, by decide, by decide, by decide, fun p hp => by simp [km2] at hp, fun p hp => by simp [km2] at hp⟩
theorem km2_fit : FitM km2 := by
  refine fitM_of (valK_txs val_ab) ⟨by decide, fun p hp => ?_⟩ ⟨by decide, fun p hp => by simp [km2] at hp⟩ ⟨by decide, fun p hp => by simp [km2] at hp⟩
  simp [km2] at hp
  subst hp
  decide
theorem km2_size : sizE km2 = .tuple #[.int .i64 46, .int .i64 0] := by unfold sizE; rw [if_pos km2_may, km2_len]; rfl

set_option maxRecDepth 20000 in
theorem known_any (w : World) : Calls Tryz.prog 7 #[] w fun e w' => e = .returned (.bool true) ∧ Keeps no w w' := by
  have hI0 : IsM (w.alloc (.cells #[.int .i64 2, .int .i64 3, .int .u64 5, .int .u64 65539, .slice none 0 0, .slice none 0 0, .slice none 0 0, .slice none 0 0] 29)) 2 3 5 65539 none 0 0 none 0 0 none 0 0 none 0 0 [] km :=
    ⟨rfl, rfl, rfl, rfl, rfl, rfl, rfl, rfl, own_nil_sl _, own_nil_sl _, own_nil_sl _, ⟨own_nil_sl _, rfl, fun j hj => by simp [km] at hj⟩, km_rng, km_fit⟩
  have HI0 : Hid _ := hI0
  clear hI0
  have k0 : Keeps no w (w.alloc (.cells #[.int .i64 2, .int .i64 3, .int .u64 5, .int .u64 65539, .slice none 0 0, .slice none 0 0, .slice none 0 0, .slice none 0 0] 29)) := (Keeps.refl _ _).alloc _
  go_enter Tryz.func7, Tryz.ntmps7
  go_wp2_with fail
  refine (Encode_any _ 2 3 5 65539 none 0 0 none 0 0 none 0 0 none 0 0 [] km HI0.out).mono ?_
  rintro e w1 ⟨o1, n1, c1, rfl, hn1, hown1, hnew1, hk1⟩
  rw [km_encE.1]
  rw [km_encE.2] at hown1 hn1
  have hb1 := hk1.at (blk_new w _) (fun h => h)
  have HB1 : Hid (w1.heap[w.heap.size]? = some (.cells #[.int .i64 2, .int .i64 3, .int .u64 5, .int .u64 65539, .slice none 0 0, .slice none 0 0, .slice none 0 0, .slice none 0 0] 29 (0, 0))) := hb1
  have hk01 := k0.trans hk1
  have hlen : (enc km).length = 22 := by rw [enc_length, km_len]
  have hby : ∀ c ∈ enc km, c < 256 := app_lt (num_lt _ _) (body_byt km)
  have HSL : Hid (BSl w1 o1 c1 (enc km)) := hown1.sl' hby (by omega)
  clear hb1
  go_wp2_with fail
  refine (Decode_any w1 o1 n1 c1 (enc km) hn1.out (by omega) HSL.out).mono ?_
  rw [km_dec]
  rintro e w2 ⟨k, cl, q, i, op, np, cp, ok, nk, ck, ow, nw, cw, ov, nv, cv, rs, rfl, HM, hF, hk2⟩
  have hk02 := hk01.trans hk2
  have k3 : Keeps no w2 (((w2.alloc (.cells #[.int .i64 k, .int .i64 cl, .int .u64 (q : Nat), .int .u64 (i : Nat), .slice op np cp, .slice ok nk ck, .slice ow nw cw, .slice ov nv cv] 29)).alloc (.cells #[.string ⟨#[97]⟩, .string ⟨#[98]⟩] 9)).alloc (.cells #[.string ⟨#[97]⟩, .string ⟨#[120]⟩] 51)) := (((Keeps.refl no w2).alloc _).alloc _).alloc _
  have hI3 : IsM (((w2.alloc (.cells #[.int .i64 k, .int .i64 cl, .int .u64 (q : Nat), .int .u64 (i : Nat), .slice op np cp, .slice ok nk ck, .slice ow nw cw, .slice ov nv cv] 29)).alloc (.cells #[.string ⟨#[97]⟩, .string ⟨#[98]⟩] 9)).alloc (.cells #[.string ⟨#[97]⟩, .string ⟨#[120]⟩] 51)) 1 0 1 65536 (some ⟨w2.heap.size + 1 + 1, 0, none⟩) 1 1 (some ⟨w2.heap.size + 1, 0, none⟩) 2 2 none 0 0 none 0 0 [] km2 := by
    refine ⟨rfl, rfl, rfl, rfl, rfl, rfl, rfl, rfl, ?_, ?_, own_nil_sl _, ⟨own_nil_sl _, rfl, fun j hj => by simp [km2] at hj⟩, km2_rng, km2_fit⟩
    · have := own_oneP ((w2.alloc (.cells #[.int .i64 k, .int .i64 cl, .int .u64 (q : Nat), .int .u64 (i : Nat), .slice op np cp, .slice ok nk ck, .slice ow nw cw, .slice ov nv cv] 29)).alloc (.cells #[.string ⟨#[97]⟩, .string ⟨#[98]⟩] 9)) ta tx
      have e : ((w2.alloc (.cells #[.int .i64 k, .int .i64 cl, .int .u64 (q : Nat), .int .u64 (i : Nat), .slice op np cp, .slice ok nk ck, .slice ow nw cw, .slice ov nv cv] 29)).alloc (.cells #[.string ⟨#[97]⟩, .string ⟨#[98]⟩] 9)).heap.size = w2.heap.size + 1 + 1 := by simp
      rw [e] at this
      exact this
    · refine Sl.keepsN ?_ ((Keeps.refl no _).alloc _)
      refine ⟨.inr ⟨_, _, rfl, fun j u hj => ?_⟩, by simp [km2], fun e => by cases e⟩
      have hb := blk_new (w2.alloc (.cells #[.int .i64 k, .int .i64 cl, .int .u64 (q : Nat), .int .u64 (i : Nat), .slice op np cp, .slice ok nk ck, .slice ow nw cw, .slice ov nv cv] 29)) (.cells #[.string ⟨#[97]⟩, .string ⟨#[98]⟩] 9)
      have e : (w2.alloc (.cells #[.int .i64 k, .int .i64 cl, .int .u64 (q : Nat), .int .u64 (i : Nat), .slice op np cp, .slice ok nk ck, .slice ow nw cw, .slice ov nv cv] 29)).heap.size = w2.heap.size + 1 := by simp
      rw [e] at hb
      rw [cell_of_blk hb, Nat.zero_add]
      simpa [El.cells, TE, km2, ta, tb] using hj
  have HI3 : Hid _ := hI3
  clear hI3
  go_wp2_with fail
  refine (Size_any _ 1 0 1 65536 _ 1 1 _ 2 2 none 0 0 none 0 0 [] km2 HI3.out).mono ?_
  rw [km2_size]
  rintro e w4 ⟨rfl, hk4⟩
  have hk24 := k3.trans hk4
  have hb4 := hk24.at (hk2.at HB1.out (fun h => h)) (fun h => h)
  have hc4 : w4.heap[w2.heap.size]? = some (.cells #[.int .i64 k, .int .i64 cl, .int .u64 (q : Nat), .int .u64 (i : Nat), .slice op np cp, .slice ok nk ck, .slice ow nw cw, .slice ov nv cv] 29 (0, 0)) := hk4.at (blk_alloc (blk_alloc (blk_new w2 _) _) _) (fun h => h)
  obtain ⟨x0, x1, x2, x3, x4, x5, x6, x7⟩ := cells8 hb4
  obtain ⟨y0, y1, y2, y3, y4, y5, y6, y7⟩ := cells8 hc4
  have hk04 := hk02.trans hk24
  clear hb4 hc4
  go_wp2_with fail
  refine (Same_any w4 2 3 5 65539 none 0 0 none 0 0 none 0 0 none 0 0 [] km (HI0.out.keepsN ((hk1.trans hk2).trans hk24)) k cl q i op np cp ok nk ck ow nw cw ov nv cv rs km (HM.out.keepsN hk24)).mono ?_
  rintro e w5 ⟨⟨B5, rfl, hB5⟩, hk5⟩
  have hB5' := hB5.out.2 rfl
  rw [hB5']
  have HN1 : Hid (n1 = (enc km).length) := hn1
  have HO5 : Hid (BRow w5 o1 (enc km)) := (HSL.out.row.keeps (hk2.trans (hk24.trans hk5)) (fun _ _ h => h))
  have hrl := row_lit w5 (enc km) hby (by omega)
  have ev : (vals (enc km)).toArray = #[.int .u8 0, .int .u8 0, .int .u8 0, .int .u8 18, .int .u8 2, .int .u8 3, .int .u8 0, .int .u8 0, .int .u8 0, .int .u8 0, .int .u8 0, .int .u8 0, .int .u8 0, .int .u8 5, .int .u8 0, .int .u8 0, .int .u8 0, .int .u8 0, .int .u8 0, .int .u8 1, .int .u8 0, .int .u8 3] := by rw [km_enc]; rfl
  rw [ev] at hrl
  have HRL : Hid _ := hrl
  have HLN : Hid (22 = (enc km).length) := hlen.symm
  clear hrl ev hlen
  go_wp2_with fail
  refine (same_bytes _ o1 n1 c1 _ 22 22 (enc km) (enc km) HN1.out HLN.out (HO5.out.keeps ((Keeps.refl no w5).alloc _) (fun _ _ h => h)) HRL.out).mono ?_
  rintro e w6 ⟨rfl, hw6⟩
  subst w6
  rw [decide_eq_true rfl]
  go_wp2
  go_ret
  exact ⟨rfl, (hk04.trans hk5).alloc _⟩
end Go.Proofs.YtjklpcamlppegaaGreat

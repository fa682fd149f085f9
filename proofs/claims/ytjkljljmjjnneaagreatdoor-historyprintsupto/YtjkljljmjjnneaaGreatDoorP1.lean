/- readNumber, readByte, readText, readTexts. -/
import Derived.Test.YtjkljljmjjnneaaGreatDoorP0
import Derived.Test.YtjkljljmjjnneaaGreatDoorW2
import Derived.Shelf.Pu.ParseUintPublic10
import Derived.Shelf.Small.Strs
import Derived.Deep.RegionHeldLaw
import Derived.Deep.RegionHeld3
import Derived.Lib.QuietBelow
import Derived.BigQuiet
namespace Go.Proofs.YtjkljljmjjnneaaGreatDoor
open Go.RowKit Go.Sort Orl
set_option linter.unusedVariables false
set_option linter.unusedSimpArgs false

/-- a number as it is read -/
def numR (l : List UInt8) : Option Nat := if 1 < l.length ∧ l.getD 0 0 = 48 then none else match Lib.parseUintB 64 l with | .ok u => some u | _ => none
theorem data_len (s : ByteArray) : s.data.toList.length = s.size := Array.length_toList
theorem parseUint_any (w : World) (hv : Vs w) (s : ByteArray) (hs : s.size ≤ 281474976710656) :
    Calls Tryz.prog 66 #[.string s, .int .i64 10, .int .i64 64] w fun e w' => (∃ (v : Nat) (x : Value), e = .returned (.tuple #[.int .u64 (v : Nat), x]) ∧ ((Lib.parseUintB 64 s.data.toList = .ok v ∧ x = .nilIface) ∨ ((∀ u, Lib.parseUintB 64 s.data.toList ≠ .ok u) ∧ ∃ t p, x = .iface t p))) ∧ Keeps no w w' := by
  have hmax : s.size ≤ 9223372036854775806 := by omega
  cases h : Lib.parseUintB 64 s.data.toList with
  | ok u =>
    refine (Any.strconv_ParseUint_10_at64_ok Tryz.laysParseUint s hmax u h w).mono ?_
    rintro e w' ⟨rfl, hw⟩
    refine ⟨⟨u, _, rfl, .inl ⟨rfl, rfl⟩⟩, ?_⟩
    rcases hw with rfl | rfl
    · exact Keeps.refl _ _
    · exact Keeps.of_below (Lib.bytesWorld_below _ _ _)
  | «syntax» =>
    obtain ⟨te, pe, hc⟩ := hv.syn
    refine (Any.strconv_ParseUint_10_at64_syntax Tryz.laysParseUint s hs h _ w hc (.inr ⟨te, pe, rfl⟩)).mono ?_
    rintro e w' ⟨N, rfl, -, -, hb⟩
    exact ⟨⟨0, _, rfl, .inr ⟨(fun u e => by cases e), _, _, rfl⟩⟩, Keeps.of_below hb⟩
  | range =>
    obtain ⟨te, pe, hc⟩ := hv.rng
    refine (Any.strconv_ParseUint_10_at64_range Tryz.laysParseUint s hs h _ w hc (.inr ⟨te, pe, rfl⟩)).mono ?_
    rintro e w' ⟨N, rfl, -, -, hb⟩
    exact ⟨⟨18446744073709551615, _, rfl, .inr ⟨(fun u e => by cases e), _, _, rfl⟩⟩, Keeps.of_below hb⟩
theorem readNumber_any (w : World) (hv : Vs w) (s : ByteArray) (hs : s.size ≤ 281474976710656) :
    Calls Tryz.prog 45 #[.string s] w fun e w' => ∃ v : Nat, e = .returned (.tuple #[.int .u64 (v : Nat), .bool (numR s.data.toList).isSome]) ∧ (∀ u, numR s.data.toList = some u → v = u) ∧ Keeps no w w' := by
  have HP : Hid (∀ W, Keeps no w W → Calls Tryz.prog 66 #[.string s, .int .i64 10, .int .i64 64] W fun e w' => (∃ (v : Nat) (x : Value), e = .returned (.tuple #[.int .u64 (v : Nat), x]) ∧ ((Lib.parseUintB 64 s.data.toList = .ok v ∧ x = .nilIface) ∨ ((∀ u, Lib.parseUintB 64 s.data.toList ≠ .ok u) ∧ ∃ t p, x = .iface t p))) ∧ Keeps no W w') := fun W hW => parseUint_any W (hv.keepsN hW) s hs
  have hsb : (s.size : Int) ≤ 281474976710656 := by omega
  have hd := data_len s
  clear hv
  by_cases h1 : 1 < s.size
  · have h1' : (s.size : Int) > 1 := by omega
    have hg := text_at s 0 (by omega)
    by_cases h2 : s[0].toNat = 48
    · have HN : Hid (numR s.data.toList = none) := by
        show _ = _
        unfold numR
        rw [if_pos ⟨by omega, by rw [hg]; exact UInt8.toNat_inj.1 h2⟩]
      have h2' : ((s[0].toNat : Nat) : Int) = 48 := by omega
      go_enter Tryz.func45, Tryz.ntmps45
      go_wp2_with fail
      go_ret2
      exact ⟨0, by rw [HN.out]; rfl, (fun u e => by rw [HN.out] at e; cases e), Keeps.refl _ _⟩
    · have HN : Hid (numR s.data.toList = match Lib.parseUintB 64 s.data.toList with | .ok u => some u | _ => none) := by
        show _ = _
        unfold numR
        rw [if_neg (fun h => h2 (by rw [hg] at h; rw [h.2]; rfl))]
      have h2' : ¬ ((s[0].toNat : Nat) : Int) = 48 := by omega
      go_enter Tryz.func45, Tryz.ntmps45
      go_wp2_with fail
      refine (HP.out _ (Keeps.refl _ _)).mono ?_
      rintro e w1 ⟨⟨v, x, rfl, hx⟩, hk⟩
      rcases hx with ⟨h3, rfl⟩ | ⟨h3, t, p, rfl⟩
      · have HR : Hid (numR s.data.toList = some v) := by show _ = _; rw [HN.out, h3]
        have HK : Hid (Keeps no w w1) := hk
        clear h3 hk
        go_wp2_with fail
        go_region
        go_wp2_with fail
        go_ret2
        exact ⟨v, by rw [HR.out]; rfl, (fun u e => by rw [HR.out] at e; injection e), HK.out.drew⟩
      · have HR : Hid (numR s.data.toList = none) := by
          show _ = _
          rw [HN.out]
          cases hq : Lib.parseUintB 64 s.data.toList with
          | ok u => exact absurd hq (h3 u)
          | «syntax» => rfl
          | range => rfl
        have HK : Hid (Keeps no w w1) := hk
        clear h3 hk
        go_wp2_with fail
        go_region
        go_wp2_with fail
        go_ret2
        exact ⟨v, by rw [HR.out]; rfl, (fun u e => by rw [HR.out] at e; cases e), HK.out.drew⟩
  · have h1' : ¬ (s.size : Int) > 1 := by omega
    have HN : Hid (numR s.data.toList = match Lib.parseUintB 64 s.data.toList with | .ok u => some u | _ => none) := by
      show _ = _
      unfold numR
      rw [if_neg (fun h => h1 (by omega))]
    go_enter Tryz.func45, Tryz.ntmps45
    go_wp2_with fail
    refine (HP.out _ (Keeps.refl _ _)).mono ?_
    rintro e w1 ⟨⟨v, x, rfl, hx⟩, hk⟩
    rcases hx with ⟨h3, rfl⟩ | ⟨h3, t, p, rfl⟩
    · have HR : Hid (numR s.data.toList = some v) := by show _ = _; rw [HN.out, h3]
      have HK : Hid (Keeps no w w1) := hk
      clear h3 hk
      go_wp2_with fail
      go_region
      go_wp2_with fail
      go_ret2
      exact ⟨v, by rw [HR.out]; rfl, (fun u e => by rw [HR.out] at e; injection e), HK.out.drew⟩
    · have HR : Hid (numR s.data.toList = none) := by
        show _ = _
        rw [HN.out]
        cases hq : Lib.parseUintB 64 s.data.toList with
        | ok u => exact absurd hq (h3 u)
        | «syntax» => rfl
        | range => rfl
      have HK : Hid (Keeps no w w1) := hk
      clear h3 hk
      go_wp2_with fail
      go_region
      go_wp2_with fail
      go_ret2
      exact ⟨v, by rw [HR.out]; rfl, (fun u e => by rw [HR.out] at e; cases e), HK.out.drew⟩
/-- a digit -/
def hexV (c : UInt8) : Int := Lib.indexByte [48, 49, 50, 51, 52, 53, 54, 55, 56, 57, 97, 98, 99, 100, 101, 102] c
theorem hexV_lt (c : UInt8) : -1 ≤ hexV c ∧ hexV c < 16 := by
  have key : ∀ n : Fin 256, -1 ≤ hexV (UInt8.ofNat n.1) ∧ hexV (UInt8.ofNat n.1) < 16 := by decide +kernel
  have h := key ⟨c.toNat, c.toNat_lt⟩
  simpa using h
/-- a byte as it is read: which, and in how many -/
def byteR (l : List UInt8) : UInt8 × Nat := match l with
  | [] => (0, 0)
  | a :: r => if plainB a = true then (a, 1) else if a ≠ 37 then (0, 0) else match r with
    | x :: y :: _ => if hexV x < 0 then (0, 0) else if hexV y < 0 then (0, 0) else if plainB (UInt8.ofNat (hexV x * 16 + hexV y).toNat) = true then (0, 0) else (UInt8.ofNat (hexV x * 16 + hexV y).toNat, 3)
    | _ => (0, 0)
theorem hexIdx_any (w : World) (c : UInt8) : Calls Tryz.prog 112 #[.string ⟨#[48, 49, 50, 51, 52, 53, 54, 55, 56, 57, 97, 98, 99, 100, 101, 102]⟩, .int .u8 (c.toNat : Nat)] w fun e w' => e = .returned (.int .i64 (hexV c)) ∧ w' = w := by
  have h := Any.strings_IndexByte Tryz.laysIndexByte ⟨#[48, 49, 50, 51, 52, 53, 54, 55, 56, 57, 97, 98, 99, 100, 101, 102]⟩ (c.toNat : Nat) w
  have e : ((c.toNat : Int)).toNat.toUInt8 = c := by simp
  rw [e] at h
  exact h
theorem byteR_shape {s : ByteArray} (h3 : 3 ≤ s.size) : s.data.toList = s[0] :: s[1] :: s[2] :: s.data.toList.drop 3 := by
  have hd := data_len s
  refine List.ext_getElem? fun i => ?_
  have key : ∀ (j : Nat) (hj : j < s.size), s.data.toList[j]? = some s[j] := fun j hj => by
    rw [List.getElem?_eq_getElem (by omega)]; rfl
  match i with
  | 0 => rw [key 0 (by omega)]; rfl
  | 1 => rw [key 1 (by omega)]; rfl
  | 2 => rw [key 2 (by omega)]; rfl
  | i + 3 => simp [List.getElem?_drop, Nat.add_comm]
theorem or_hex (x y : Int) (hx : 0 ≤ x) (hx2 : x < 16) (hy : 0 ≤ y) (hy2 : y < 16) : bits BinOp.or IntKind.i64 (x * 16) y % 256 = ((UInt8.ofNat (x * 16 + y).toNat).toNat : Nat) := by
  have key : ∀ a b : Fin 16, bits BinOp.or IntKind.i64 ((a.1 : Int) * 16) (b.1 : Int) % 256 = ((UInt8.ofNat ((a.1 : Int) * 16 + (b.1 : Int)).toNat).toNat : Nat) := by decide +kernel
  have h := key ⟨x.toNat, by omega⟩ ⟨y.toNat, by omega⟩
  simp only [Int.toNat_of_nonneg hx, Int.toNat_of_nonneg hy] at h
  exact h
set_option maxRecDepth 10000 in
set_option maxHeartbeats 1000000 in
theorem readByte_any (w : World) (s : ByteArray) (h1 : 1 ≤ s.size) (hs : s.size ≤ 281474976710656) :
    Calls Tryz.prog 103 #[.string s] w fun e w' => e = .returned (.tuple #[.int .u8 ((byteR s.data.toList).1.toNat : Nat), .int .i64 ((byteR s.data.toList).2 : Nat)]) ∧ Keeps no w w' := by
  have hd := data_len s
  have hsb : (s.size : Int) ≤ 281474976710656 := by omega
  have hs0 : s.data.toList = s[0] :: s.data.toList.drop 1 := by
    have e : s.data.toList[0]? = some s[0] := by rw [List.getElem?_eq_getElem (by omega)]; rfl
    cases hl : s.data.toList with
    | nil => rw [hl] at e; cases e
    | cons a r => rw [hl] at e; injection e with e; rw [e]; rfl
  have h30 : 0 < s.size := by omega
  cases hp : plainB s[0] with
  | true =>
    obtain ⟨R, hR⟩ : ∃ R, R = byteR s.data.toList := ⟨_, rfl⟩
    rw [← hR]
    rw [hs0] at hR
    unfold byteR at hR
    simp only at hR
    rw [if_pos hp] at hR
    have HI := isPlain_any w s[0]
    rw [hp] at HI
    clear hs0 hp hd
    subst hR
    go_enter Tryz.func103, Tryz.ntmps103
    go_wp2_with fail
    refine HI.mono ?_
    rintro e w1 ⟨rfl, hw⟩
    subst hw
    go_wp2_with fail
    go_ret2
    exact ⟨rfl, Keeps.refl _ _⟩
  | false =>
    by_cases hq : s[0] = 37
    · have hq' : ((s[0].toNat : Nat) : Int) = 37 := by rw [hq]; rfl
      by_cases h3 : 3 ≤ s.size
      · have hsh := byteR_shape h3
        have h3' : ¬ (s.size : Int) < 3 := by omega
        have h31 : 1 < s.size := by omega
        have h32 : 2 < s.size := by omega
        have HI := isPlain_any w 37
        rw [show plainB 37 = false from by decide] at HI
        obtain ⟨n1, hn1⟩ : ∃ n1 : Int, n1 = (s[1].toNat : Nat) := ⟨_, rfl⟩
        obtain ⟨n2, hn2⟩ : ∃ n2 : Int, n2 = (s[2].toNat : Nat) := ⟨_, rfl⟩
        obtain ⟨x, hx⟩ : ∃ x, x = hexV s[1] := ⟨_, rfl⟩
        obtain ⟨y, hy⟩ : ∃ y, y = hexV s[2] := ⟨_, rfl⟩
        have HX1 : Hid (∀ W, Calls Tryz.prog 112 #[.string ⟨#[48, 49, 50, 51, 52, 53, 54, 55, 56, 57, 97, 98, 99, 100, 101, 102]⟩, .int .u8 n1] W fun e w' => e = .returned (.int .i64 x) ∧ w' = W) := fun W => by rw [hn1, hx]; exact hexIdx_any W _
        have HX2 : Hid (∀ W, Calls Tryz.prog 112 #[.string ⟨#[48, 49, 50, 51, 52, 53, 54, 55, 56, 57, 97, 98, 99, 100, 101, 102]⟩, .int .u8 n2] W fun e w' => e = .returned (.int .i64 y) ∧ w' = W) := fun W => by rw [hn2, hy]; exact hexIdx_any W _
        have hxb := hexV_lt s[1]
        have hyb := hexV_lt s[2]
        rw [← hx] at hxb
        rw [← hy] at hyb
        obtain ⟨R, hR⟩ : ∃ R, R = byteR s.data.toList := ⟨_, rfl⟩
        rw [← hR]
        have HEQ : Hid ((x < 0 → R = (0, 0)) ∧ (¬ x < 0 → y < 0 → R = (0, 0)) ∧ (¬ x < 0 → ¬ y < 0 → R = if plainB (UInt8.ofNat (x * 16 + y).toNat) = true then (0, 0) else (UInt8.ofNat (x * 16 + y).toNat, 3))) := by
          rw [hR, hsh]
          unfold byteR
          simp only
          rw [if_neg (by rw [hp]; decide), if_neg (by rw [hq]; decide), ← hx, ← hy]
          refine ⟨fun h => by rw [if_pos h], fun g h => by rw [if_neg g, if_pos h], fun g h => by rw [if_neg g, if_neg h]⟩
        have HOR : Hid (¬ x < 0 → ¬ y < 0 → bits BinOp.or IntKind.i64 (x * 16) y % 256 = ((UInt8.ofNat (x * 16 + y).toNat).toNat : Nat)) := fun g1 g2 => or_hex x y (by omega) (by omega) (by omega) (by omega)
        have hs1 : ((s[1].toNat : Nat) : Int) = n1 := hn1.symm
        have hs2 : ((s[2].toNat : Nat) : Int) = n2 := hn2.symm
        clear hsh hd hp hn1 hn2 hx hy hR
        go_enter Tryz.func103, Tryz.ntmps103
        go_wp2_with fail
        refine HI.mono ?_
        rintro e w1 ⟨rfl, hw⟩
        subst hw
        go_upto_region 5 with fail
        refine wp_region_held_drew (S := fun X => True) (by kernel_rfl) ?_ (fun hHeld => ?_)
        · exact trivial
        refine wpAnyH_take (i := 0) (v := ?_) (by simp only [List.getElem?_toArray, List.getElem?_cons_succ, List.getElem?_cons_zero]; rfl) (by kernel_rfl) (by kernel_rfl) (by kernel_rfl) (by exact fun _ _ _ h => h) (Or.inl ⟨by rfl, ?_⟩) (by assumption) ?_
        rotate_left
        · (intro _ hSw; (try dsimp only at hSw); go_simp; (try with_reducible rfl))
        try simp only [Act.put, List.setIfInBounds_toArray, List.set_cons_zero, List.set_cons_succ]
        refine wpAnyH_take (i := 1) (v := ?_) (by simp only [List.getElem?_toArray, List.getElem?_cons_succ, List.getElem?_cons_zero]; rfl) (by kernel_rfl) (by kernel_rfl) (by kernel_rfl) (by exact fun _ _ _ h => h) (Or.inl ⟨by rfl, ?_⟩) (by assumption) ?_
        rotate_left
        · (intro _ hSw; (try dsimp only at hSw); go_simp; rw [if_pos (by omega)]; (try with_reducible rfl))
        try simp only [Act.put, List.setIfInBounds_toArray, List.set_cons_zero, List.set_cons_succ]
        refine wpAnyH_take (i := 3) (v := ?_) (by simp only [List.getElem?_toArray, List.getElem?_cons_succ, List.getElem?_cons_zero]; rfl) (by kernel_rfl) (by kernel_rfl) (by kernel_rfl) (by exact fun _ _ _ h => h) (Or.inl ⟨by rfl, ?_⟩) (by assumption) ?_
        rotate_left
        · (intro _ hSw; (try dsimp only at hSw); go_simp; (try with_reducible rfl))
        try simp only [Act.put, List.setIfInBounds_toArray, List.set_cons_zero, List.set_cons_succ]
        refine wpAnyH_take (i := 4) (v := ?_) (by simp only [List.getElem?_toArray, List.getElem?_cons_succ, List.getElem?_cons_zero]; rfl) (by kernel_rfl) (by kernel_rfl) (by kernel_rfl) (by exact fun _ _ _ h => h) (Or.inl ⟨by rfl, ?_⟩) (by assumption) ?_
        rotate_left
        · (intro _ hSw; (try dsimp only at hSw); go_simp; rw [if_pos (by omega)]; (try with_reducible rfl))
        try simp only [Act.put, List.setIfInBounds_toArray, List.set_cons_zero, List.set_cons_succ]
        refine wpAnyH_ready (rs := [2]) (by kernel_rfl) (by simp) ?_
        refine (AllReadyH.cons (by simp only [List.getElem?_toArray, List.getElem?_cons_succ, List.getElem?_cons_zero]; rfl) (fun Kq hKq => ?_) AllReadyH.nil)
        go_simp
        refine Calls.mono (HX1.out _) ?_
        rintro e w1 ⟨rfl, hw⟩
        subst hw
        refine hKq.out _ _ ?_ (fun hHeldN => ?_)
        · exact trivial
        clear hKq Kq hHeld
        have hHeld := hHeldN
        clear hHeldN
        refine wpAnyH_ready (rs := [5]) (by kernel_rfl) (by simp) ?_
        refine (AllReadyH.cons (by simp only [List.getElem?_toArray, List.getElem?_cons_succ, List.getElem?_cons_zero]; rfl) (fun Kq hKq => ?_) AllReadyH.nil)
        go_simp
        refine Calls.mono (HX2.out _) ?_
        rintro e w1 ⟨rfl, hw⟩
        subst hw
        refine hKq.out _ _ ?_ (fun hHeldN => ?_)
        · exact trivial
        clear hKq Kq hHeld
        have hHeld := hHeldN
        clear hHeldN
        refine wpAnyH_take (i := 6) (v := ?_) (by simp only [List.getElem?_toArray, List.getElem?_cons_succ, List.getElem?_cons_zero]; rfl) (by kernel_rfl) (by kernel_rfl) (by kernel_rfl) (by exact fun _ _ _ h => h) (Or.inl ⟨by rfl, ?_⟩) (by assumption) ?_
        rotate_left
        · (intro _ hSw; (try dsimp only at hSw); go_simp; (try with_reducible rfl))
        try simp only [Act.put, List.setIfInBounds_toArray, List.set_cons_zero, List.set_cons_succ]
        refine wpAnyH_take (i := 7) (v := ?_) (by simp only [List.getElem?_toArray, List.getElem?_cons_succ, List.getElem?_cons_zero]; rfl) (by kernel_rfl) (by kernel_rfl) (by kernel_rfl) (by exact fun _ _ _ h => h) (Or.inl ⟨by rfl, ?_⟩) (by assumption) ?_
        rotate_left
        · (intro _ hSw; (try dsimp only at hSw); go_simp; (try with_reducible rfl))
        try simp only [Act.put, List.setIfInBounds_toArray, List.set_cons_zero, List.set_cons_succ]
        refine wpAnyH_done (by kernel_rfl) ?_ _
        clear hHeld
        have HKD : Hid (Keeps no w1 w1.drew) := (Keeps.refl _ _).drew
        have HMY : Hid (∀ m : UInt8, Calls Tryz.prog 77 #[.int .u8 (m.toNat : Nat)] w1.drew fun e w' => e = .returned (.bool (plainB m)) ∧ w' = w1.drew) := fun m => isPlain_any _ m
        by_cases g1 : x < 0
        · obtain rfl := HEQ.out.1 (by omega)
          go_wp2_with fail
          go_ret2
          exact ⟨rfl, HKD.out⟩
        · by_cases g2 : y < 0
          · obtain rfl := HEQ.out.2.1 (by omega) (by omega)
            go_wp2_with fail
            go_ret2
            exact ⟨rfl, HKD.out⟩
          · obtain ⟨m, hm⟩ : ∃ m : UInt8, m = UInt8.ofNat (x * 16 + y).toNat := ⟨_, rfl⟩
            have HE := HEQ.out.2.2 (by omega) (by omega)
            rw [← hm] at HE
            have hor := HOR.out (by omega) (by omega)
            rw [← hm] at hor
            have HOR2 : Hid (bits BinOp.or IntKind.i64 (x * 16) y % 256 = (m.toNat : Nat)) := hor
            clear hor HOR HEQ hm
            have HM := HMY.out m
            cases hp : plainB m with
            | true =>
              rw [hp] at HM
              obtain rfl : R = (0, 0) := by rw [HE, if_pos hp]
              clear HE hp
              go_wp2_with fail
              rw [HOR2.out]
              refine HM.mono ?_
              rintro e w1 ⟨rfl, hw⟩
              subst hw
              go_wp2_with fail
              go_ret2
              exact ⟨rfl, HKD.out⟩
            | false =>
              rw [hp] at HM
              obtain rfl : R = (m, 3) := by rw [HE, if_neg (by rw [hp]; decide)]
              clear HE hp
              go_wp2_with fail
              rw [HOR2.out]
              refine HM.mono ?_
              rintro e w1 ⟨rfl, hw⟩
              subst hw
              go_wp2_with fail
              go_ret2
              exact ⟨by simp only [HOR2.out]; rfl, HKD.out⟩
      · have h3' : (s.size : Int) < 3 := by omega
        obtain ⟨R, hR⟩ : ∃ R, R = byteR s.data.toList := ⟨_, rfl⟩
        rw [← hR]
        have hl2 : (s.data.toList.drop 1).length < 2 := by rw [List.length_drop]; omega
        rw [hs0] at hR
        unfold byteR at hR
        simp only at hR
        rw [if_neg (by rw [hp]; decide), if_neg (by rw [hq]; decide)] at hR
        have hR0 : R = (0, 0) := by
          rw [hR]
          match hd1 : s.data.toList.drop 1 with
          | [] => rfl
          | [x] => rfl
          | x :: y :: l => rw [hd1] at hl2; simp at hl2; omega
        have HI := isPlain_any w 37
        rw [show plainB 37 = false from by decide] at HI
        clear hs0 hp hd hl2 hR
        subst hR0
        go_enter Tryz.func103, Tryz.ntmps103
        go_wp2_with fail
        refine HI.mono ?_
        rintro e w1 ⟨rfl, hw⟩
        subst hw
        go_wp2_with fail
        go_ret2
        exact ⟨rfl, Keeps.refl _ _⟩
    · have hq' : ¬ ((s[0].toNat : Nat) : Int) = 37 := fun e => hq (UInt8.toNat_inj.1 (by show s[0].toNat = 37; omega))
      obtain ⟨R, hR⟩ : ∃ R, R = byteR s.data.toList := ⟨_, rfl⟩
      rw [← hR]
      rw [hs0] at hR
      unfold byteR at hR
      simp only at hR
      rw [if_neg (by rw [hp]; decide), if_pos hq] at hR
      have HI := isPlain_any w s[0]
      rw [hp] at HI
      clear hs0 hp hd
      subst hR
      go_enter Tryz.func103, Tryz.ntmps103
      go_wp2_with fail
      refine HI.mono ?_
      rintro e w1 ⟨rfl, hw⟩
      subst hw
      go_wp2_with fail
      go_ret2
      exact ⟨rfl, Keeps.refl _ _⟩
end Go.Proofs.YtjkljljmjjnneaaGreatDoor

import Derived.Test.YtdemoghlibnooaaGreatDoorB7
import Derived.Lib.SliceRun
import Derived.Test.YtdemoghlibnooaaGreatDoorBC
import Derived.Deep.RegionHeld3
import Derived.Test.YtdemoghlibnooaaGreatDoorA2
import Derived.Test.YtdemoghlibnooaaGreatDoorBE
import Derived.Deep.RegionHeldLaw
import Derived.Test.YtdemoghlibnooaaGreatDoorDY
namespace Go.Proofs.YtdemoghlibnooaaGreatDoor
open Go.RowKit Go.Maps Go.Sort Orl Pk
set_option linter.unusedVariables false
set_option linter.unusedSimpArgs false
theorem and1 (r : Nat) (hr : r < 4294967296) : bits .and .u32 (r : Int) 1 = ((r % 2 : Nat) : Int) := by
  have := u32_and_nat r 1 hr (by decide)
  rw [nat_mask1] at this
  exact this
theorem Owns.keepsN {w w' : World} {o : Option Addr} {c : Nat} {bs : List Nat} (h : Owns w o c bs) (hk : Keeps no w w') : Owns w' o c bs := h.keeps hk (fun _ _ => id)
end Go.Proofs.YtdemoghlibnooaaGreatDoor
namespace Go.Proofs.YtdemoghlibnooaaGreatDoor
open Go.RowKit Go.Maps Go.Sort Orl Pk
set_option linter.unusedVariables false
set_option linter.unusedSimpArgs false
def Rm (w0 : World) (p : Nat) (s : St) (N : Nat) (w : World) : Prop := ∃ oK nK cK oL nL cL ks ls, RO (fun b => w0.heap.size ≤ b) w p oK nK cK oL nL cL ks ls ∧ Rl s ks ls ∧ ks.length ≤ N ∧ Ok s ∧ Keeps no w0 w
variable {w0 w w' : World} {p : Nat} {s : St} {N : Nat}
end Go.Proofs.YtdemoghlibnooaaGreatDoor
namespace Go.Proofs.YtdemoghlibnooaaGreatDoor
open Go.RowKit Go.Sort Orl Pk
set_option linter.unusedVariables false
set_option linter.unusedSimpArgs false
theorem num_getD : ∀ (K v d : Nat), d < K → (num K v).getD d 0 = v / 2 ^ (8 * (K - 1 - d)) % 256
  | 0, v, d, h => by omega
  | k + 1, v, d, h => by
    unfold num
    by_cases hd : d < k
    · have ih := num_getD k (v / 256) d hd
      simp only [List.getD_eq_getElem?_getD] at ih ⊢
      rw [List.getElem?_append_left (by rw [num_length]; exact hd), ih, Nat.div_div_eq_div_mul, show (256 : Nat) = 2 ^ 8 from rfl, ← Nat.pow_add, show 8 + 8 * (k - 1 - d) = 8 * (k + 1 - 1 - d) by omega]
    · have : d = k := by omega
      subst this
      simp only [List.getD_eq_getElem?_getD]
      rw [List.getElem?_append_right (by rw [num_length]; exact Nat.le_refl _), num_length, Nat.sub_self]
      simp
theorem num_byte (K v d I : Nat) (hd : d < K) (hI : I = K - 1 - d) : ((v : Int) / 2 ^ (8 * I)) % 256 = (((num K v).getD d 0 : Nat) : Int) := by
  rw [num_getD K v d hd, hI]
  simp
theorem owns_lit (w : World) (X : List Nat) (hx : X.length ≤ 1000) : Owns (w.alloc (.cells (vals X).toArray 5)) (some ⟨w.heap.size, 0, none⟩) X.length X :=
  ⟨by simp [vals], .inr ⟨w.heap.size, X.length, (vals X).toArray, rfl, Nat.zero_le _, blk_new w _, Nat.le_refl _, by unfold maxLen; omega, by simp [vals], by simp only [vals, List.toList_toArray]; rw [Nat.mul_one]; exact List.take_of_length_le (by simp)⟩⟩
set_option maxRecDepth 10000 in
theorem dNumber_any (w : World) (o : Option Addr) (n c : Nat) (bs : List Nat) (v K : Nat) (hn : n = bs.length) (hown : Owns w o c bs) (hnb : (n : Int) ≤ 140737488355310) (hv : v < 18446744073709551616) (hK : K ≤ 8) :
    Calls Tryz.prog 123 #[.slice o n c, .int .u64 (v : Nat), .int .i64 (K : Nat)] w (AppTo w o (bs ++ num K v)) := by
  have HN : Hid (n = bs.length) := hn
  have hK' : (K : Int) ≤ 8 := by omega
  clear hn
  go_enter Tryz.func123, Tryz.ntmps123
  go_wp2_with fail
  go_loopw [0, 7] (fun s i wr => ∃ (oo : Option Addr) (mm cc d : Nat) (z : Int), s = .slice oo mm cc ∧ i = .int .i64 z ∧ d ≤ K ∧ Hid (z = (K : Int) - 1 - d ∧ mm = n + d) ∧ -1 ≤ z ∧ z ≤ 8 ∧ (mm : Int) ≤ 140737488355318 ∧ Hid (Owns wr oo cc (bs ++ (num K v).take d) ∧ Fresh w o oo ∧ Keeps (inO o) w wr)) (fun _ i _ => (1 + intOf i).toNat)
  case atStart => exact ⟨o, n, c, 0, _, rfl, rfl, by omega, ⟨by omega, by omega⟩, by omega, by omega, by omega, ⟨by simpa using hown, .inl rfl, Keeps.refl _ _⟩⟩
  case round =>
    rename World => wq
    obtain ⟨oo, mm, cc, d, z, rfl, rfl, hd, HZ, hz1, hz8, hmm, HO⟩ := hrel
    by_cases hz : 0 ≤ z
    · obtain ⟨I, rfl⟩ : ∃ I : Nat, z = (I : Int) := ⟨z.toNat, by omega⟩
      have hz' : (I : Int) ≥ 0 := hz
      have hdK : d < K := by have := HZ.out.1; omega
      have hby := num_byte K v d I hdK (by have := HZ.out.1; omega)
      obtain ⟨B, hB⟩ : ∃ B, B = (num K v).getD d 0 := ⟨_, rfl⟩
      rw [← hB] at hby
      have HB : Hid (B = (num K v).getD d 0 ∧ d < K ∧ B < 256) := ⟨hB, hdK, by rw [hB]; exact getD_lt' _ (num_lt K v) d (by rw [num_length]; exact hdK)⟩
      have HML : Hid (mm = (bs ++ (num K v).take d).length) := by show _ = _; rw [List.length_append, List.length_take, num_length, HZ.out.2, HN.out]; omega
      have HLT : Hid (BRow (wq.alloc (.cells #[.int .u8 (B : Nat)] 5)) (some ⟨wq.heap.size, 0, none⟩) [B]) := row_lit wq [B] (by intro x hx; rw [List.mem_singleton.1 hx]; exact HB.out.2.2) (by simp)
      clear hB hdK
      go_wp2_with (at_builtin; go_must (refine wpList_appB rfl _ _ rfl oo mm cc (bs ++ (num K v).take d) rfl HML.out (HO.out.1.keeps ((Keeps.refl no wq).alloc _) (fun _ _ h => h)) _ 1 1 [B] rfl rfl (fun e => by cases e) HLT.out (by omega) ?_); intro o' c' w' ho hfr hk)
      go_roundw
      case rel =>
        have h3 := HO.out
        refine ⟨o', mm + 1, c', d + 1, _, rfl, rfl, by have := HB.out.2.1; omega, ⟨by have := HZ.out.1; omega, by have := HZ.out.2; omega⟩, by omega, by omega, by have := HZ.out; have := HB.out.2.1; omega, ⟨?_, ?_, ?_⟩⟩
        · have e : (num K v).take (d + 1) = (num K v).take d ++ [B] := by rw [HB.out.1]; exact take_succ_getD _ d 0 (by rw [num_length]; exact HB.out.2.1)
          rw [e, ← List.append_assoc]
          exact ho
        · exact h3.2.1.trans (hfr.old (by simp)) h3.2.2.size
        · refine (h3.2.2.alloc _).then hk (fun j hj => ?_)
          rcases h3.2.1.in j hj with h | h
          · exact .inl h
          · exact .inr h
      case measure => simp [intOf]; omega
    · have hz' : ¬ z ≥ 0 := hz
      have hdK : d = K := by have := HZ.out.1; omega
      go_wp2_with fail
      go_ret
      have h3 := HO.out
      refine ⟨oo, cc, mm, rfl, ?_, ?_, h3.2.1, h3.2.2⟩
      · show _ = _; rw [List.length_append, num_length, HZ.out.2, HN.out, hdK]
      · rw [hdK, List.take_of_length_le (by rw [num_length]; exact Nat.le_refl _)] at h3; exact h3.1
set_option maxRecDepth 10000 in
theorem dText_any (w : World) (o : Option Addr) (n c : Nat) (bs : List Nat) (s : Tx) (hn : n = bs.length) (hown : Owns w o c bs) (hnb : (n : Int) ≤ 140737488280000) (hs : s.size ≤ 65535) :
    Calls Tryz.prog 125 #[.slice o n c, .string s] w (AppTo w o (bs ++ txt (nats s))) := by
  have HN : Hid (n = bs.length) := hn
  have hs1 : (s.size : Int) ≤ 65535 := by omega
  clear hn
  go_enter Tryz.func125, Tryz.ntmps125
  go_wp2_with fail
  refine (dNumber_any w o n c bs s.size 4 HN.out hown (by omega) (by omega) (by omega)).mono ?_
  rintro e w1 ⟨o1, c1, n1, rfl, hn1, hown1, hfr1, hk1⟩
  have HO1 : Hid (Owns w1 o1 c1 (bs ++ num 4 s.size) ∧ Fresh w o o1 ∧ Keeps (inO o) w w1) := ⟨hown1, hfr1, hk1⟩
  have hn1b : (n1 : Int) ≤ 140737488280004 := by have := hn1.out; rw [List.length_append, num_length, ← HN.out] at this; omega
  clear hown1 hfr1 hk1
  go_wp2_with (at_builtin; go_must (refine wpList_appS rfl _ _ rfl o1 n1 c1 (bs ++ num 4 s.size) rfl hn1.out HO1.out.1 s rfl (by omega) ?_); intro o2 c2 w2 ho2 hfr2 hk2)
  go_ret
  have h1 := HO1.out
  refine ⟨o2, c2, n1 + s.size, rfl, ?_, ?_, h1.2.1.trans hfr2 h1.2.2.size, h1.2.2.then hk2 (fun j hj => ?_)⟩
  · show _ = _; rw [hn1.out]; unfold txt; simp only [List.length_append, num_length, nats_length]; omega
  · unfold txt; rw [nats_length, ← List.append_assoc]; exact ho2
  · rcases h1.2.1.in j hj with h | h
    · exact .inl h
    · exact .inr h
theorem sh_odd (r : Nat) (hr : r < 4294967296) (h : r % 2 = 1) : bits .xor .u32 ((r : Int) / 2) 3988292384 = (Crc.sh r : Nat) := by
  have e1 : (r : Int) / 2 = ((r / 2 : Nat) : Int) := by omega
  rw [e1]
  have := u32_xor_nat (r / 2) 3988292384 (by omega) (by decide)
  unfold Crc.sh
  rw [h, Nat.one_mul]
  exact this
theorem sh_even (r : Nat) (h : r % 2 = 0) : ((r : Int) / 2) = (Crc.sh r : Nat) := by
  unfold Crc.sh; rw [h]; simp
theorem rShift_any (w : World) (r : Nat) (hr : r < 4294967296) : Calls Tryz.prog 228 #[.int .u32 ((r : Nat) : Int)] w fun e w' => e = .returned (.int .u32 ((Crc.sh r : Nat) : Int)) ∧ w' = w := by
  have h1 := and1 r hr
  by_cases ho : r % 2 = 1
  · have hs := sh_odd r hr ho
    rw [ho] at h1
    have h1' : bits .and .u32 (r : Int) 1 = 1 := h1
    clear h1 ho
    go_enter Tryz.func228, Tryz.ntmps228
    go_wp2_with fail
    go_ret
    exact ⟨rfl, rfl⟩
  · have he : r % 2 = 0 := by omega
    have HE : Hid (((r : Int) / 2) = (Crc.sh r : Nat)) := sh_even r he
    rw [he] at h1
    have h1' : bits .and .u32 (r : Int) 1 = 0 := h1
    clear h1 ho he
    go_enter Tryz.func228, Tryz.ntmps228
    go_wp2_with fail
    go_ret
    exact ⟨ret_u32 HE.out, rfl⟩
set_option maxRecDepth 10000 in
theorem dUpdate_any (w : World) (a : Option Addr) (n c : Nat) (bs : List Nat) (hn : n = bs.length) (hr : BRow w a bs) :
    Calls Tryz.prog 174 #[.int .u32 0, .slice a n c] w fun e w' => e = .returned (.int .u32 ((Crc.sum bs : Nat) : Int)) ∧ w' = w := by
  obtain ⟨hby, hm, hcell⟩ := hr
  rw [← hn] at hm hcell
  have HN : Hid (n = bs.length) := hn
  have hmI : (n : Int) ≤ 9223372036854775807 := by omega
  clear hn hm
  go_enter Tryz.func174, Tryz.ntmps174
  go_wp2_with fail
  go_loop [5, 6, 7] (fun r i _ => ∃ k : Nat, k ≤ n ∧ i = .int .i64 k ∧ r = .int .u32 (Crc.upd 4294967295 (bs.take k) : Nat)) (fun _ i _ => n - (intOf i).toNat)
  case atStart => exact ⟨0, by omega, rfl, rfl⟩
  case round =>
    obtain ⟨k, hk, rfl, rfl⟩ := hrel
    have hrl := Crc.upd_lt (bs.take k) (fun c hc => hby c (List.mem_of_mem_take hc)) 4294967295 (by decide)
    obtain ⟨r, hr⟩ : ∃ r, r = Crc.upd 4294967295 (bs.take k) := ⟨_, rfl⟩
    rw [← hr] at hrl ⊢
    have HR : Hid (r = Crc.upd 4294967295 (bs.take k)) := hr
    clear hr
    by_cases h2 : k < n
    · have h2' : (k : Int) < n := by omega
      have hkb : k < bs.length := by have := HN.out; omega
      have hcl := getD_lt' bs hby k hkb
      have hsn := upd_snoc 4294967295 bs k hkb
      rcases hcell with h0 | ⟨b, off, rfl, hc⟩
      · rw [h0] at hkb; simp at hkb
      obtain ⟨x, hxx⟩ : ∃ x, x = bs.getD k 0 := ⟨_, rfl⟩
      have hck := hc k h2
      rw [← hxx] at hcl hsn hck
      have HS : Hid (Crc.upd 4294967295 (bs.take (k + 1)) = Crc.shn 8 (Crc.upd 4294967295 (bs.take k) ^^^ x)) := hsn
      have hmix := mix_num r x hrl hcl
      have hxl := Crc.xor_lt32 r x hrl (by omega)
      clear hsn hxx hby hkb hc
      go_wp2_with fail
      go_loop [5, 7] (fun y j => ∃ q : Nat, q ≤ 8 ∧ j = .int .i64 q ∧ y = .int .u32 (Crc.shn q (r ^^^ x) : Nat)) (fun _ j => 8 - (intOf j).toNat)
      case atStart => exact ⟨0, by omega, rfl, rfl⟩
      case round =>
        obtain ⟨q, hq, rfl, rfl⟩ := hrel
        have hyl := Crc.shn_lt q (r ^^^ x) hxl
        obtain ⟨y, hy⟩ : ∃ y, y = Crc.shn q (r ^^^ x) := ⟨_, rfl⟩
        rw [← hy] at hyl ⊢
        have HY : Hid (y = Crc.shn q (r ^^^ x)) := hy
        clear hy
        by_cases hq8 : q < 8
        · have hq8' : (q : Int) < 8 := by omega
          go_wp2_with fail
          refine (rShift_any _ y hyl).mono ?_
          rintro e w' ⟨rfl, hw⟩
          subst hw
          go_wp2_with fail
          go_round
          case rel => exact ⟨q + 1, by omega, by go_num, by rw [HY.out]; rfl⟩
          case measure => simp [intOf]; omega
        · have hq8' : ¬ (q : Int) < 8 := by omega
          have hqe : q = 8 := by omega
          go_wp2_with fail
          go_round
          case rel => exact ⟨k + 1, by omega, by go_num, by rw [HY.out, hqe, HS.out, HR.out]⟩
          case measure => simp [intOf]; omega
    · have h2' : ¬ (k : Int) < n := by omega
      have hs : bits .xor .u32 IntKind.u32.max (r : Int) = ((4294967295 ^^^ r : Nat) : Int) := u32_xor_nat 4294967295 r (by decide) hrl
      have HS2 : Hid (bits .xor .u32 IntKind.u32.max (r : Int) = ((4294967295 ^^^ r : Nat) : Int)) := hs
      clear hs
      go_wp2_with fail
      go_ret
      obtain rfl : k = n := by omega
      refine ⟨ret_u32 ?_, rfl⟩
      refine HS2.out.trans ?_
      rw [Nat.xor_comm, HR.out, HN.out, List.take_length]
      unfold Crc.sum Crc.update
      rw [Nat.zero_xor]
theorem dSum_any (w : World) (a : Option Addr) (n c : Nat) (bs : List Nat) (hn : n = bs.length) (hr : BRow w a bs) :
    Calls Tryz.prog 127 #[.slice a n c] w fun e w' => e = .returned (.int .u32 ((Crc.sum bs : Nat) : Int)) ∧ w' = w := by
  have h := dUpdate_any w a n c bs hn hr
  clear hn hr
  go_enter Tryz.func127, Tryz.ntmps127
  go_wp2_with fail
  refine h.mono ?_
  rintro e w' ⟨rfl, hw⟩
  subst hw
  go_wp2_with fail
  go_ret
  exact ⟨rfl, rfl⟩
end Go.Proofs.YtdemoghlibnooaaGreatDoor

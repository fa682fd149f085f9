import Derived.Test.YtbkfalaicocopaaDoorFar
namespace Go.Proofs.YtbkfalaicocopaaDoor
open Go.RowKit
open Crc

theorem ret_u64 {a b : Int} (h : a = b) : Ending.returned (.int .u64 a) = .returned (.int .u64 b) := by rw [h]
theorem join_num (a b m : Nat) (ha : a < 4294967296) (hb : b < 4294967296) : bits .xor .u32 (prod a (shn (8 * m) 2147483648) : Nat) (b : Int) = (join a b m : Nat) := by
  rw [u32_xor_nat _ _ (prod_lt _ _ (shn_lt _ _ (by decide))) hb, prod_far a _ ha]
  rfl

theorem join_any (a b : Nat) (n : Int) (ha : a < 4294967296) (hb : b < 4294967296) (hn : n < 9223372036854775808) (hn' : -9223372036854775808 ≤ n) (w : World) (ht : TabIn w) :
    Calls Tryd.prog 8 #[.int .u32 (a : Int), .int .u32 (b : Int), .int .i64 n] w fun e w' => e = .returned (.int .u32 (join a b n.toNat : Nat)) ∧ w' = w := by
  by_cases h : 0 ≤ n
  · obtain ⟨m, rfl⟩ : ∃ m : Nat, n = m := ⟨n.toNat, by omega⟩
    have hx := shn_lt (8 * m) 2147483648 (by decide)
    go_enter Tryd.func8, Tryd.ntmps8
    go_wp2_with (first | (go_at_call 22; go_must (refine (byteSteps_any m (by omega) _ ht).mono ?_); rintro e w' ⟨rfl, rfl⟩) | (go_at_call 21; refine (product_any _ _ ha hx _).mono ?_; rintro e w' ⟨rfl, rfl⟩))
    go_ret
    exact ⟨ret_u32 (join_num a b m ha hb), rfl⟩
  · have e0 : n.toNat = 0 := by omega
    rw [e0]
    have hx := shn_lt (8 * 0) 2147483648 (by decide)
    have hmx : max n 0 = 0 := by omega
    go_enter Tryd.func8, Tryd.ntmps8
    go_wp2_with (first | (go_at_call 22; go_must (refine (byteSteps_any 0 (by omega) _ ht).mono ?_); rintro e w' ⟨rfl, rfl⟩) | (go_at_call 21; refine (product_any _ _ ha hx _).mono ?_; rintro e w' ⟨rfl, rfl⟩))
    go_ret
    exact ⟨ret_u32 (join_num a b 0 ha hb), rfl⟩

/-- a slice's bytes, as they lie in memory -/
def Row (w : World) (a : Option Addr) (bs : List Nat) : Prop :=
  (∀ c ∈ bs, c < 256) ∧ bs.length ≤ 9223372036854775807 ∧ (bs = [] ∨ ∃ b off, a = some ⟨b, off, none⟩ ∧ ∀ j, j < bs.length → w.cell? ⟨b, off + j, none⟩ = some (.int .u8 (bs.getD j 0 : Nat)))

theorem not_num (s : Nat) (hs : s < 4294967296) : bits .xor .u32 IntKind.u32.max (s : Int) = ((s ^^^ 4294967295 : Nat) : Int) := by
  have := u32_xor_nat 4294967295 s (by decide) hs
  rw [Nat.xor_comm] at this
  exact this
theorem mix_num (r c : Nat) (hr : r < 4294967296) (hc : c < 256) : bits .xor .u32 (r : Int) (c : Int) = ((r ^^^ c : Nat) : Int) :=
  u32_xor_nat r c hr (by omega)
theorem upd_snoc (r : Nat) (bs : List Nat) (k : Nat) (h : k < bs.length) : upd r (bs.take (k + 1)) = shn 8 (upd r (bs.take k) ^^^ bs.getD k 0) := by
  rw [List.take_succ_eq_append_getElem h, upd_append]
  simp [upd, List.getD_eq_getElem?_getD, h]
theorem getD_lt (bs : List Nat) (hby : ∀ c ∈ bs, c < 256) (k : Nat) (h : k < bs.length) : bs.getD k 0 < 256 := by
  rw [List.getD_eq_getElem?_getD, List.getElem?_eq_getElem h]
  exact hby _ (List.getElem_mem h)

theorem update_any (s : Nat) (a : Option Addr) (bs : List Nat) (cap : Nat) (hs : s < 4294967296) (w : World) (ht : TabIn w) (hr : Row w a bs) :
    Calls Tryd.prog 9 #[.int .u32 (s : Int), .slice a bs.length cap] w fun e w' => e = .returned (.int .u32 (update s bs : Nat)) ∧ w' = w := by
  obtain ⟨hby, hm, hcell⟩ := hr
  obtain ⟨n, hn⟩ : ∃ n, n = bs.length := ⟨_, rfl⟩
  rw [← hn] at hm hcell ⊢
  have HN : Hid (n = bs.length) := hn
  clear hn
  go_enter Tryd.func9, Tryd.ntmps9
  go_wp2_with fail
  go_loop [5, 11] (fun r i => ∃ k : Nat, k ≤ n ∧ i = .int .i64 k ∧ r = .int .u32 (upd (s ^^^ 4294967295) (bs.take k) : Nat)) (fun _ i => n - (intOf i).toNat)
  case atStart => exact ⟨0, by omega, rfl, by rw [not_num s hs]; rfl⟩
  case round =>
    obtain ⟨k, hk, rfl, rfl⟩ := hrel
    have hrl := upd_lt (bs.take k) (fun c hc => hby c (List.mem_of_mem_take hc)) (s ^^^ 4294967295) (xor_lt32 _ _ hs (by decide))
    obtain ⟨r, hr⟩ : ∃ r, r = upd (s ^^^ 4294967295) (bs.take k) := ⟨_, rfl⟩
    rw [← hr] at hrl ⊢
    have HR : Hid (r = upd (s ^^^ 4294967295) (bs.take k)) := hr
    clear hr
    by_cases h2 : k < n
    · have hkb : k < bs.length := by have := HN.out; omega
      have hcl := getD_lt bs hby k hkb
      have hsn := upd_snoc (s ^^^ 4294967295) bs k hkb
      rcases hcell with h0 | ⟨b, off, rfl, hc⟩
      · rw [h0] at hkb; simp at hkb
      obtain ⟨c, hcc⟩ : ∃ c, c = bs.getD k 0 := ⟨_, rfl⟩
      have hck := hc k h2
      rw [← hcc] at hcl hsn hck
      have HS : Hid (upd (s ^^^ 4294967295) (bs.take (k + 1)) = shn 8 (upd (s ^^^ 4294967295) (bs.take k) ^^^ c)) := hsn
      have hmix := mix_num r c hrl hcl
      have hxl := xor_lt32 r c hrl (by omega)
      clear hsn hcc hc hby
      go_wp2_with (go_at_call 23; go_must (refine (byteStep_any _ hxl _ ht).mono ?_); rintro e w' ⟨rfl, rfl⟩)
      go_round
      case rel => exact ⟨k + 1, by omega, by go_num, by rw [HS.out, HR.out]⟩
      case measure => simp [intOf]; omega
    · go_wp2_with fail
      go_ret
      obtain rfl : k = n := by omega
      exact ⟨ret_u32 (by rw [not_num r hrl, HR.out, HN.out, List.take_length]; rfl), rfl⟩

theorem sum_any (a : Option Addr) (bs : List Nat) (cap : Nat) (w : World) (ht : TabIn w) (hr : Row w a bs) :
    Calls Tryd.prog 10 #[.slice a bs.length cap] w fun e w' => e = .returned (.int .u32 (sum bs : Nat)) ∧ w' = w := by
  go_enter Tryd.func10, Tryd.ntmps10
  go_wp2_with (go_at_call 9; go_must (refine (update_any 0 a bs cap (by decide) _ ht hr).mono ?_); rintro e w' ⟨rfl, rfl⟩)
  go_ret
  exact ⟨rfl, rfl⟩

/-- FNV-1a -/
def fnvStep (h c : Nat) : Nat := (h ^^^ c) * 1099511628211 % 18446744073709551616
def fnv (h : Nat) (bs : List Nat) : Nat := bs.foldl fnvStep h
theorem fnvStep_lt (h c : Nat) : fnvStep h c < 18446744073709551616 := Nat.mod_lt _ (by decide)
theorem fnv_append (h : Nat) (a b : List Nat) : fnv h (a ++ b) = fnv (fnv h a) b := List.foldl_append
theorem fnv_one (h c : Nat) : fnv h [c] = fnvStep h c := by rw [fnv, List.foldl_cons, List.foldl_nil]
theorem fnv_lt (bs : List Nat) : ∀ h, h < 18446744073709551616 → fnv h bs < 18446744073709551616 := by
  induction bs with
  | nil => intro h hh; exact hh
  | cons c bs ih => intro h _; exact ih _ (fnvStep_lt _ _)
def nats (s : ByteArray) : List Nat := s.data.toList.map (·.toNat)
theorem fnv_snoc (h : Nat) (s : ByteArray) (k : Nat) (hk : k < s.size) : fnv h ((nats s).take (k + 1)) = fnvStep (fnv h ((nats s).take k)) s[k].toNat := by
  have hl : k < (nats s).length := by simpa [nats] using hk
  have e : (nats s)[k] = s[k].toNat := by simp [nats]; rfl
  rw [List.take_succ_eq_append_getElem hl, fnv_append, e, fnv_one]
theorem feed_num (g c : Nat) (hg : g < 18446744073709551616) (hc : c < 256) : IntKind.u64.wrap (bits .xor .u64 (g : Int) (c : Int) * 1099511628211) = (fnvStep g c : Nat) := by
  rw [u64_xor_nat g c hg (by omega), IntKind.wrap_u64]
  unfold fnvStep
  omega
theorem feed_any (h : Nat) (s : ByteArray) (hh : h < 18446744073709551616) (w : World) (hs : s.size ≤ maxLen) :
    Calls Tryd.prog 13 #[.int .u64 (h : Int), .string s] w fun e w' => e = .returned (.int .u64 (fnv h (nats s) : Nat)) ∧ w' = w := by
  unfold maxLen at hs
  go_enter Tryd.func13, Tryd.ntmps13
  go_wp2_with fail
  go_loop [0, 8] (fun r i => ∃ k : Nat, k ≤ s.size ∧ i = .int .i64 k ∧ r = .int .u64 (fnv h ((nats s).take k) : Nat)) (fun _ i => s.size - (intOf i).toNat)
  case atStart => exact ⟨0, by omega, rfl, rfl⟩
  case round =>
    obtain ⟨k, hk, rfl, rfl⟩ := hrel
    have hrl := fnv_lt ((nats s).take k) h hh
    obtain ⟨r, hr⟩ : ∃ r, r = fnv h ((nats s).take k) := ⟨_, rfl⟩
    rw [← hr] at hrl ⊢
    have HR : Hid (r = fnv h ((nats s).take k)) := hr
    clear hr
    by_cases h2 : k < s.size
    · have HS : Hid (fnv h ((nats s).take (k + 1)) = fnvStep (fnv h ((nats s).take k)) s[k].toNat) := fnv_snoc h s k h2
      have hu : s[k].toNat < 256 := s[k].toNat_lt
      go_wp2
      go_round
      case rel => exact ⟨k + 1, by omega, by go_num, by rw [HS.out, feed_num r _ hrl hu, HR.out]⟩
      case measure => simp [intOf]; omega
    · go_wp2_with fail
      go_ret
      obtain rfl : k = s.size := by omega
      exact ⟨ret_u64 (by rw [HR.out, List.take_of_length_le (by simp [nats])]), rfl⟩
theorem begin_any (w : World) : Calls Tryd.prog 15 #[] w fun e w' => e = .returned (.int .u64 (14695981039346656037 : Nat)) ∧ w' = w := by
  go_enter Tryd.func15, Tryd.ntmps15
  go_wp2
  go_ret
  exact ⟨rfl, rfl⟩
theorem hash_any (s : ByteArray) (w : World) (hs : s.size ≤ maxLen) :
    Calls Tryd.prog 14 #[.string s] w fun e w' => e = .returned (.int .u64 (fnv 14695981039346656037 (nats s) : Nat)) ∧ w' = w := by
  go_enter Tryd.func14, Tryd.ntmps14
  go_wp2_with (first | (go_at_call 15; go_must (refine (begin_any _).mono ?_); rintro e w' ⟨rfl, rfl⟩) | (go_at_call 13; go_must (refine (feed_any 14695981039346656037 s (by decide) _ hs).mono ?_); rintro e w' ⟨rfl, rfl⟩))
  go_ret
  exact ⟨rfl, rfl⟩
end Go.Proofs.YtbkfalaicocopaaDoor

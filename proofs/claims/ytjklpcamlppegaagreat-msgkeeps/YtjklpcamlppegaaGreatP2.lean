/- The program's Encode. -/
import Derived.Test.YtjklpcamlppegaaGreatP1
namespace Go.Proofs.YtjklpcamlppegaaGreat
open Go.RowKit Go.Sort Orl Pk
set_option linter.unusedVariables false
set_option linter.unusedSimpArgs false

set_option maxRecDepth 10000 in
theorem layWants_any (w : World) (a : Nat) (o : Option Addr) (st : WS) (w1 : World) (h : WStep 84 w a o Lm st w1) (ol : Option Addr) (n c : Nat) (xs : List Wn) (hn : n = xs.length) (h1024 : xs.length ≤ 1024) (hs : ∀ p ∈ xs, p.1.size ≤ 65535) (hi : ∀ p ∈ xs, p.2 < 18446744073709551616) (hsl : Sl WE w ol c xs) (hap : ∀ k, k < w.heap.size → inO ol k → ¬ footW a o k) :
    Calls Tryz.prog 56 #[.pointer (some ⟨a, 0, none⟩), .slice ol n c] w1 fun e w2 => e = .returned (.tuple #[]) ∧ WStep 84 w a o Lm (lays st (num 4 n :: chW xs)) w2 ∧ Stay w1 w2 := by
  have HN : Hid (n = xs.length) := hn
  have hn2 : n ≤ 1024 := by omega
  have hconv : ((n : Int) % 4294967296) = (n : Int) := by omega
  clear hn
  go_enter Tryz.func56, Tryz.ntmps56
  go_wp2_with fail
  try rw [hconv]
  refine (wsU32 h n (by omega)).mono ?_
  rintro e w2 ⟨rfl, h2, hst2⟩
  have H2 : Hid (WStep 84 w a o Lm (lay Lm st (num 4 n)) w2) := h2
  go_wp2_with fail
  go_loopw [13] (fun i wr => ∃ k : Nat, k ≤ n ∧ i = .int .i64 k ∧ Hid (WStep 84 w a o Lm (lays st (num 4 n :: chW (xs.take k))) wr) ∧ Stay w1 wr) (fun i _ => n - (intOf i).toNat)
  case atStart => exact ⟨0, by omega, rfl, H2, hst2⟩
  case round =>
    obtain ⟨k, hk, rfl, HW, HST⟩ := hrel
    by_cases h2 : k < n
    · have hks : k < xs.length := by have := HN.out; omega
      have hlt := hsl.lt okW (fun e => by rw [e] at hks; simp at hks)
      obtain ⟨b, off, rfl, c1, c2⟩ := (hsl.keeps HW.out.keeps (fun k hk => hap k (hlt k hk) hk)).atW hks
      have hsz := hs _ (getD_mem_lt w0' hks)
      have hid := hi _ (getD_mem_lt w0' hks)
      have HS : Hid (chW (xs.take (k + 1)) = chW (xs.take k) ++ [txt (nats (xs.getD k w0').1)] ++ [num 8 (xs.getD k w0').2]) := chW_snoc xs k hks
      generalize xs.getD k w0' = s at c1 c2 hsz hid HS
      obtain ⟨s1, s2⟩ := s
      simp only at c1 c2 hsz hid HS
      go_wp2_with fail
      refine (wsText (HW.out.more ((Keeps.refl no _).alloc _)) s1 hsz).mono ?_
      rintro e w3 ⟨rfl, h3, hst3⟩
      have hb : w3.heap[wr.heap.size]? = some (.cells #[.string s1, .int .u64 (s2 : Nat)] 53 (0, 0)) := hst3 _ _ _ _ (blk_new wr _) (by decide) (by decide)
      have d1 : w3.cell? ⟨wr.heap.size, 1, none⟩ = some (.int .u64 (s2 : Nat)) := cell_of_blk hb 1
      go_wp2_with fail
      refine (wsU64 h3 s2 hid).mono ?_
      rintro e w4 ⟨rfl, h4, hst4⟩
      go_wp2_with fail
      go_roundw
      case rel =>
        refine ⟨k + 1, by omega, by go_num, ?_, ((HST.trans (Stay.of_keeps ((Keeps.refl no _).alloc _))).trans hst3).trans hst4⟩
        show WStep _ _ _ _ _ _ _
        rw [HS.out, show num 4 n :: (chW (xs.take k) ++ [txt (nats s1)] ++ [num 8 s2]) = (num 4 n :: chW (xs.take k)) ++ [txt (nats s1)] ++ [num 8 s2] by simp, lays_snoc, lays_snoc]
        exact h4
      case measure => simp [intOf]; omega
    · have hkn : k = n := by omega
      go_wp2_with fail
      go_end0
      have e1 := HW.out
      rw [hkn, HN.out, List.take_length] at e1
      refine ⟨rfl, ?_, HST⟩
      rw [HN.out]; exact e1

def chV (v : Ver) : List (List Nat) := [txt (nats v.key), num 8 v.id] ++ (if v.id = 0 then [] else [txt (nats v.val), txts (natss v.keys)])
theorem chV_flat (v : Ver) : (chV v).flatten = layV v := by
  unfold chV layV
  split <;> simp
set_option maxRecDepth 10000 in
theorem layVersion_any (w : World) (a : Nat) (o : Option Addr) (st : WS) (w1 : World) (h : WStep 84 w a o Lm st w1) (v : Ver) (key : Tx) (id : Nat) (val : Tx) (ol : Option Addr) (n c : Nat) (hv : VerOf w ⟨key, id, val, ol, n, c⟩ v) (hf : OkV v) (hid : id < 18446744073709551616) (hne : id ≠ 0 → v.keys ≠ []) (hap : id ≠ 0 → ∀ k, k < w.heap.size → inO ol k → ¬ footW a o k) :
    Calls Tryz.prog 57 #[.pointer (some ⟨a, 0, none⟩), .agg #[.string key, .int .u64 (id : Nat), .string val, .slice ol n c]] w1 fun e w2 => e = .returned (.tuple #[]) ∧ WStep 84 w a o Lm (lays st (chV v)) w2 ∧ Stay w1 w2 := by
  obtain ⟨k', i', x', ks⟩ := v
  obtain ⟨h1, h2, h3, h4, h5⟩ := hv
  simp only at h1 h2 h3 h4 h5 hne
  subst h1 h2 h3
  obtain ⟨f1, f2, f3⟩ := hf
  simp only at f1 f2 f3
  have HN : Hid (n = ks.length) := h4
  clear h4
  have k0 : Keeps no w1 (w1.alloc (.cells #[.string key, .int .u64 (id : Nat), .string val, .slice ol n c] 46)) := (Keeps.refl _ _).alloc _
  go_enter Tryz.func57, Tryz.ntmps57
  go_wp2_with fail
  refine (wsText (h.more k0) key f1).mono ?_
  rintro e w2 ⟨rfl, h2, hst2⟩
  have hb2 : w2.heap[w1.heap.size]? = some (.cells #[.string key, .int .u64 (id : Nat), .string val, .slice ol n c] 46 (0, 0)) := hst2 _ _ _ _ (blk_new w1 _) (by decide) (by decide)
  have x1 : w2.cell? ⟨w1.heap.size, 1, none⟩ = some (.int .u64 (id : Nat)) := cell_of_blk hb2 1
  go_wp2_with fail
  refine (wsU64 h2 id hid).mono ?_
  rintro e w3 ⟨rfl, h3, hst3⟩
  have hb3 : w3.heap[w1.heap.size]? = some (.cells #[.string key, .int .u64 (id : Nat), .string val, .slice ol n c] 46 (0, 0)) := hst3 _ _ _ _ hb2 (by decide) (by decide)
  obtain ⟨y0, y1, y2, y3⟩ := cells4 hb3
  have hst := ((Stay.of_keeps k0).trans hst2).trans hst3
  by_cases hi : id = 0
  · subst hi
    go_wp2_with fail
    go_end0
    exact ⟨rfl, h3, hst⟩
  · have hi2 : ((id : Int) == 0) = false := by simp; omega
    have hi3 : ¬ ((id : Int) = 0) := by omega
    go_wp2_with fail
    refine (wsText h3 val f2).mono ?_
    rintro e w4 ⟨rfl, h4, hst4⟩
    have hb4 : w4.heap[w1.heap.size]? = some (.cells #[.string key, .int .u64 (id : Nat), .string val, .slice ol n c] 46 (0, 0)) := hst4 _ _ _ _ hb3 (by decide) (by decide)
    have z3 : w4.cell? ⟨w1.heap.size, 3, none⟩ = some (.slice ol n c) := cell_of_blk hb4 3
    go_wp2_with fail
    refine (wsTexts h4 ol n c ks HN.out f3 (hne hi) h5 (hap hi)).mono ?_
    rintro e w5 ⟨rfl, h5, hst5⟩
    go_wp2_with fail
    go_end0
    refine ⟨rfl, ?_, (hst.trans hst4).trans hst5⟩
    unfold chV
    simp only [if_neg hi]
    exact h5
end Go.Proofs.YtjklpcamlppegaaGreat

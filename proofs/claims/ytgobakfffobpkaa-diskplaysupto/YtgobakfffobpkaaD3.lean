/- A file found: Sync, Read, Size, Cut, Delete. -/
import Derived.Test.YtgobakfffobpkaaD2
namespace Go.Proofs.Ytgobakfffobpkaa
open Go.RowKit Dk
set_option linter.unusedVariables false
set_option linter.unusedSimpArgs false

def ptrOf (o : Option Lo) : Value := match o with | none => .pointer none | some x => .pointer (some ⟨x.p, 0, none⟩)
theorem look {w : World} {bm : Nat} {L : LL} (h : IsM w bm L) (n : Tx) (hn : n.size ≤ maxLen) : (Instr.lookup 66 (.map (some bm)) (.string n) false).run Try.prog w = .ok (ptrOf (find n.data.toList L)) w := by
  obtain ⟨v, ps, hrun, hv⟩ := World.ownsMap.lookup h law9 Try.underlying66 (z := .pointer none) (Try.zeroValue70 w) R70_nil (key9 n hn)
  suffices hh : v = ptrOf (find n.data.toList L) by rw [hrun, hh]
  clear hrun
  rw [dat_at] at hv
  cases hf : find n.data.toList L with
  | none =>
    rw [hf] at hv
    simp only at hv
    rcases R70_inv hv with ⟨rfl, _⟩ | ⟨p, _, e⟩
    · rfl
    · cases e
  | some x =>
    rw [hf] at hv
    simp only at hv
    rcases R70_inv hv with ⟨_, e⟩ | ⟨p, rfl, e⟩
    · cases e
    · have h3 := congrArg (fun d : DataW Unit => match d with | .lit (.int _ z) => z | _ => 0) e
      simp only at h3
      have hp : x.p = p := by omega
      simp [ptrOf, hp]

/-- what 'find' tells -/
inductive Found (w : World) (p : Nat) (F : Nat → Prop) (t : St) (n : Nm) : Value → Int → Prop
  | off (h : IsD w p F t) (ho : t.off = true) : Found w p F t n (.pointer none) 62
  | none (h : IsD w p F t) (ho : t.off = false) (hf : find n t.fs = Option.none) : Found w p F t n (.pointer Option.none) 61
  | some (bm : Nat) (c : Int) (L : LL) (x : Lo) (h : DL w p F t bm c L) (ho : t.off = false) (hf : find n L = Option.some x) : Found w p F t n (.pointer (Option.some ⟨x.p, 0, Option.none⟩)) 0
theorem find_any (w : World) (p : Nat) (F : Nat → Prop) (s : St) (n : Tx) (h : IsD w p F s) (hn : n.size ≤ maxLen) :
    Calls Try.prog 39 #[.pointer (some ⟨p, 0, none⟩), .string n] w fun e w' => ∃ v er, e = .returned (.tuple #[v, .int .i64 er]) ∧ Found w' p F (tick s) n.data.toList v er ∧ Keeps F w w' := by
  obtain ⟨t, ht⟩ : ∃ t, t = tick s := ⟨_, rfl⟩
  rw [← ht]
  have HT : Hid (t = tick s) := ht
  clear ht
  go_enter Try.func39, Try.ntmps39
  go_wp2_with fail
  refine (counts_any w p F s h).mono ?_
  rintro e w1 ⟨rfl, h1, HK⟩
  rw [← HT.out] at h1 ⊢
  cases ho : t.off with
  | true =>
    go_wp2
    go_ret2
    exact ⟨_, _, rfl, .off h1 ho, HK⟩
  | false =>
    obtain ⟨bm, c, L, hd⟩ := h1
    have c0 : w1.cell? ⟨p, 0, none⟩ = some (.map (some bm)) := cell_of_blk hd.blk 0
    have hl := look hd.map n hn
    have HD : Hid (DL w1 p F t bm c L) := hd
    cases hf : Dk.find n.data.toList L with
    | none =>
      rw [hf] at hl
      simp only [ptrOf] at hl
      clear hd
      go_wp2
      go_ret2
      exact ⟨_, _, rfl, .none ⟨bm, c, L, HD.out⟩ ho (by rw [HD.out.find, hf]; rfl), HK⟩
    | some x =>
      rw [hf] at hl
      simp only [ptrOf] at hl
      clear hd
      go_wp2
      go_ret2
      exact ⟨_, _, rfl, .some bm c L x HD.out ho hf, HK⟩

theorem size_any (w : World) (p : Nat) (F : Nat → Prop) (s : St) (n : Tx) (h : IsD w p F s) (hn : n.size ≤ maxLen) :
    Calls Try.prog 30 #[.pointer (some ⟨p, 0, none⟩), .string n] w fun e w' => e = .returned (.tuple #[.int .i64 (((readB n.data.toList (tick s)).length : Nat) : Int), .int .i64 (readE n.data.toList (tick s))]) ∧ IsD w' p F (tick s) ∧ Keeps F w w' := by
  obtain ⟨t, ht⟩ : ∃ t, t = tick s := ⟨_, rfl⟩
  rw [← ht]
  have HT : Hid (t = tick s) := ht
  clear ht
  go_enter Try.func30, Try.ntmps30
  go_wp2_with fail
  refine (find_any w p F s n h hn).mono ?_
  rintro e w1 ⟨v, er, rfl, hF, HK⟩
  rw [← HT.out] at hF
  cases hF with
  | off h ho =>
    go_wp2
    go_ret2
    exact ⟨by simp [readB, readE, ho], h, HK⟩
  | none h ho hf =>
    go_wp2
    go_ret2
    exact ⟨by simp [readB, readE, ho, hf], h, HK⟩
  | some bm c L x h ho hf =>
    have hx := (h.files _ (find_mem hf))
    have c0 : w1.cell? ⟨x.p, 0, none⟩ = some (.slice x.o x.bs.length x.c) := cell_of_blk hx.blk 0
    have hff := h.find n.data.toList
    rw [hf] at hff
    go_wp2
    go_ret2
    exact ⟨by simp [readB, readE, ho, hff, Lo.fl], ⟨bm, c, L, h⟩, HK⟩

theorem read_any (w : World) (p : Nat) (F : Nat → Prop) (s : St) (n : Tx) (h : IsD w p F s) (hn : n.size ≤ maxLen) (hb : (readB n.data.toList (tick s)).length ≤ 140737488355328) :
    Calls Try.prog 18 #[.pointer (some ⟨p, 0, none⟩), .string n] w fun e w' => ∃ o c m, e = .returned (.tuple #[.slice o m c, .int .i64 (readE n.data.toList (tick s))]) ∧ Hid (m = (readB n.data.toList (tick s)).length) ∧ Own BE w' o c (readB n.data.toList (tick s)) ∧ New w o ∧ IsD w' p F (tick s) ∧ Keeps F w w' := by
  obtain ⟨t, ht⟩ : ∃ t, t = tick s := ⟨_, rfl⟩
  rw [← ht] at hb ⊢
  have HT : Hid (t = tick s) := ht
  clear ht
  go_enter Try.func18, Try.ntmps18
  go_wp2_with fail
  refine (find_any w p F s n h hn).mono ?_
  rintro e w1 ⟨v, er, rfl, hF, HK⟩
  rw [← HT.out] at hF
  cases hF with
  | off h ho =>
    have e1 : readB n.data.toList t = [] := by simp [readB, ho]
    have e2 : readE n.data.toList t = 62 := by simp [readE, ho]
    go_wp2
    go_ret2
    rw [e1, e2]
    exact ⟨_, _, _, rfl, rfl, own_nil _, new_none _, h, HK⟩
  | none h ho hf =>
    have e1 : readB n.data.toList t = [] := by simp [readB, ho, hf]
    have e2 : readE n.data.toList t = 61 := by simp [readE, ho, hf]
    go_wp2
    go_ret2
    rw [e1, e2]
    exact ⟨_, _, _, rfl, rfl, own_nil _, new_none _, h, HK⟩
  | some bm c L x h ho hf =>
    have hx := (h.files _ (find_mem hf))
    have c0 : w1.cell? ⟨x.p, 0, none⟩ = some (.slice x.o x.bs.length x.c) := cell_of_blk hx.blk 0
    have hff := h.find n.data.toList
    rw [hf] at hff
    have e1 : readB n.data.toList t = x.bs := by simp [readB, ho, hff, Lo.fl]
    have e2 : readE n.data.toList t = 0 := by simp [readE, ho, hff]
    rw [e1] at hb
    go_wp2_with (go_at_call 40; refine (clone_any _ _ _ _ x.bs rfl hx.own.sl hb).mono ?_; rintro e w2 ⟨v, rfl, o2, n2, c2, rfl, hn2, ho2, hnew2, hk2⟩)
    go_ret2
    rw [e1, e2]
    exact ⟨_, _, _, rfl, hn2, ho2, hnew2.of_le HK.size, IsD.keepsN ⟨bm, c, L, h⟩ hk2, HK.trans hk2.of_no⟩
end Go.Proofs.Ytgobakfffobpkaa

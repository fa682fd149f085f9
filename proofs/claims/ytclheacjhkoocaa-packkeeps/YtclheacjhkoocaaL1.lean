import Derived.Test.YtclheacjhkoocaaW3
namespace Go.Proofs.Ytclheacjhkoocaa
open Go.RowKit
open Pk
set_option linter.unusedVariables false
set_option linter.unusedSimpArgs false

/-- a call of a script, as it lies in memory -/
structure OpV where
  kind : Int
  v : Nat
  s : ByteArray
  ol : Option Addr
  cl : Nat
  ss : List ByteArray
  N : Int
  M : Int
def OpV.cells (p : OpV) : Array Value := #[.int .i64 p.kind, .int .u64 (p.v : Nat), .string p.s, .slice p.ol p.ss.length p.cl, .int .i64 p.N, .int .i64 p.M]
structure OpV.ok (p : OpV) (w : World) : Prop where
  k1 : -9223372036854775808 ≤ p.kind
  k2 : p.kind ≤ 9223372036854775807
  v1 : p.v < 18446744073709551616
  s1 : p.s.size ≤ 140737488351232
  row : RowS w p.ol p.ss
  live : ∀ k, inO p.ol k → p.ss ≠ [] → k < w.heap.size
  nil : p.ol = none → p.cl = 0
  cap : p.ss.length ≤ p.cl
  l1 : p.ss.length * 16 ≤ 140737488351232
  l2 : ∀ s ∈ p.ss, s.size ≤ 140737488351232
  n1 : -9223372036854775808 ≤ p.N
  n2 : p.N ≤ 9223372036854775807
  m1 : -9223372036854775808 ≤ p.M
  m2 : p.M ≤ 9223372036854775807
theorem OpV.ok.keeps {S : Nat → Prop} {p : OpV} {w w' : World} (h : p.ok w) (hk : Keeps S w w') (hS : ∀ k, inO p.ol k → p.ss ≠ [] → ¬ S k) : p.ok w' :=
  ⟨h.k1, h.k2, h.v1, h.s1, h.row.keeps2 hk (fun h0 x hx => hS x.block ⟨x, hx, rfl⟩ h0), fun k hh h0 => Nat.lt_of_lt_of_le (h.live k hh h0) hk.size, h.nil, h.cap, h.l1, h.l2, h.n1, h.n2, h.m1, h.m2⟩

/-- the bytes that a call writes -/
def OpV.news (p : OpV) : List Nat :=
  if p.kind = 1 then num 1 p.v else if p.kind = 2 then num 4 p.v else if p.kind = 3 then num 8 p.v else if p.kind = 4 then txt (nats p.s) else if p.kind = 5 then txts (natss p.ss) else []

theorem lay_nil (L : Nat) (bs : List Nat) (e : Nat) (h : bs.length ≤ L) : lay L (bs, e) [] = (bs, e) := by
  by_cases he : e = 0
  · subst he; rw [lay_fits _ _ _ (by simpa using h)]; simp
  · rw [lay_err _ _ _ _ he]

theorem num1_mod (v : Nat) : num 1 (v % 256) = num 1 v := num_mod 1 v

set_option maxRecDepth 10000 in
set_option maxHeartbeats 400000 in
theorem write_any (w : World) (a : Nat) (o : Option Addr) (c L : Nat) (bs : List Nat) (e0 : Nat) (p : OpV) (hp : p.ok w) (hap : ∀ k, inO p.ol k → p.ss ≠ [] → ¬ footW a o k) (h : IsW 65 w a o c L bs e0)
    (hM : 4 + bodyLen (natss p.ss) ≤ 4611686018427387904 ∨ L ≤ 4611686018427387904) (hlid : (lay L (bs, e0) p.news).1.length ≤ 140737488355328) :
    Calls Try.prog 12 #[.pointer (some ⟨a, 0, none⟩), .agg p.cells] w fun e w' => e = .returned (.tuple #[]) ∧ WStep 65 w a o L (lay L (bs, e0) p.news) w' := by
  obtain ⟨kind, v, s, ol, cl, ss, N, M⟩ := p
  simp only [OpV.cells] at *
  have HLID : Hid ((lay L (bs, e0) (OpV.news ⟨kind, v, s, ol, cl, ss, N, M⟩)).1.length ≤ 140737488355328) := hlid
  clear hlid
  obtain ⟨hk1, hk2, hv1, hs1, hrow, hlive, hnil, hcap, hl1, hl2, hn1, hn2, hm1, hm2⟩ := hp
  simp only at hk1 hk2 hv1 hs1 hrow hlive hnil hcap hl1 hl2 hn1 hn2 hm1 hm2 hap hM
  have hkb : Keeps (fun _ => False) w (w.alloc (.cells #[.int .i64 kind, .int .u64 (v : Nat), .string s, .slice ol ss.length cl, .int .i64 N, .int .i64 M] 34)) := (Keeps.refl _ _).alloc _
  have h1 := h.keeps hkb (fun _ _ h => h)
  have hstep : ∀ st w', WStep 65 (w.alloc (.cells #[.int .i64 kind, .int .u64 (v : Nat), .string s, .slice ol ss.length cl, .int .i64 N, .int .i64 M] 34)) a o L st w' → WStep 65 w a o L st w' := fun st w' hs => wstep_after hkb hs
  by_cases q1 : kind = 1
  · subst q1
    go_enter Try.func12, Try.ntmps12
    go_wp2_with fail
    rw [show ((v : Int) % 256) = ((v % 256 : Nat) : Int) by omega]
    refine (wU8_any _ a o c L bs e0 (v % 256) (by omega) h1 (by rw [num1_mod]; exact HLID.out)).mono ?_
    rw [num1_mod]
    rintro e w1 ⟨rfl, hst⟩
    go_wp2
    go_end0
    exact ⟨rfl, hstep _ _ hst⟩
  by_cases q2 : kind = 2
  · subst q2
    go_enter Try.func12, Try.ntmps12
    go_wp2_with fail
    rw [show ((v : Int) % 4294967296) = ((v % 4294967296 : Nat) : Int) by omega]
    refine (wU32_any _ a o c L bs e0 (v % 4294967296) (by omega) h1 (by rw [num4_mod]; exact HLID.out)).mono ?_
    rw [num4_mod]
    rintro e w1 ⟨rfl, hst⟩
    go_wp2
    go_end0
    exact ⟨rfl, hstep _ _ hst⟩
  by_cases q3 : kind = 3
  · subst q3
    go_enter Try.func12, Try.ntmps12
    go_wp2_with fail
    refine (wU64_any _ a o c L bs e0 v (by omega) h1 HLID.out).mono ?_
    rintro e w1 ⟨rfl, hst⟩
    go_wp2
    go_end0
    exact ⟨rfl, hstep _ _ hst⟩
  by_cases q4 : kind = 4
  · subst q4
    go_enter Try.func12, Try.ntmps12
    go_wp2_with fail
    refine (wText_any _ a o c L bs e0 s hs1 h1 HLID.out).mono ?_
    rintro e w1 ⟨rfl, hst⟩
    go_wp2
    go_end0
    exact ⟨rfl, hstep _ _ hst⟩
  by_cases q5 : kind = 5
  · subst q5
    have hrow1 := hrow.keeps hkb (fun _ _ h => h)
    go_enter Try.func12, Try.ntmps12
    go_wp2_with fail
    refine (wTexts2_any _ a o c L bs e0 ol _ cl ss rfl hrow1 hl2 (by omega) (fun h0 x hx => hap x.block ⟨x, hx, rfl⟩ h0) hM h1 HLID.out).mono ?_
    rintro e w1 ⟨rfl, hst⟩
    go_wp2
    go_end0
    exact ⟨rfl, hstep _ _ hst⟩
  · go_enter Try.func12, Try.ntmps12
    go_wp2
    go_end0
    refine ⟨rfl, ?_⟩
    have e : OpV.news ⟨kind, v, s, ol, cl, ss, N, M⟩ = [] := by simp [OpV.news, q1, q2, q3, q4, q5]
    rw [e, lay_nil _ _ _ h.fit]
    exact ⟨o, c, h1, .inl rfl, hkb.mono (fun _ h => h.elim)⟩

set_option maxRecDepth 10000 in
set_option maxHeartbeats 400000 in
theorem want_any (w : World) (a : Nat) (o : Option Addr) (c L : Nat) (bs : List Nat) (e0 : Nat) (p : OpV) (hp : p.ok w) (hap : ∀ k, inO p.ol k → p.ss ≠ [] → ¬ footW a o k) (h : IsW 85 w a o c L bs e0)
    (hM : 4 + bodyLen (natss p.ss) ≤ 140737488355328) (hlid : (lay L (bs, e0) p.news).1.length ≤ 140737488355328) :
    Calls Try.prog 30 #[.pointer (some ⟨a, 0, none⟩), .agg p.cells] w fun e w' => e = .returned (.tuple #[]) ∧ WStep 85 w a o L (lay L (bs, e0) p.news) w' := by
  obtain ⟨kind, v, s, ol, cl, ss, N, M⟩ := p
  simp only [OpV.cells] at *
  have HLID : Hid ((lay L (bs, e0) (OpV.news ⟨kind, v, s, ol, cl, ss, N, M⟩)).1.length ≤ 140737488355328) := hlid
  clear hlid
  obtain ⟨hk1, hk2, hv1, hs1, hrow, hlive, hnil, hcap, hl1, hl2, hn1, hn2, hm1, hm2⟩ := hp
  simp only at hk1 hk2 hv1 hs1 hrow hlive hnil hcap hl1 hl2 hn1 hn2 hm1 hm2 hap hM
  have hkb : Keeps (fun _ => False) w (w.alloc (.cells #[.int .i64 kind, .int .u64 (v : Nat), .string s, .slice ol ss.length cl, .int .i64 N, .int .i64 M] 34)) := (Keeps.refl _ _).alloc _
  have h1 := h.keeps hkb (fun _ _ h => h)
  have hstep : ∀ st w', WStep 85 (w.alloc (.cells #[.int .i64 kind, .int .u64 (v : Nat), .string s, .slice ol ss.length cl, .int .i64 N, .int .i64 M] 34)) a o L st w' → WStep 85 w a o L st w' := fun st w' hs => wstep_after hkb hs
  by_cases q1 : kind = 1
  · subst q1
    go_enter Try.func30, Try.ntmps30
    go_wp2_with fail
    rw [show ((v : Int) % 256) = ((v % 256 : Nat) : Int) by omega]
    refine (refU8_any _ a o c L bs e0 (v % 256) (by omega) h1 (by rw [num1_mod]; exact HLID.out)).mono ?_
    rw [num1_mod]
    rintro e w1 ⟨rfl, hst⟩
    go_wp2
    go_end0
    exact ⟨rfl, hstep _ _ hst⟩
  by_cases q2 : kind = 2
  · subst q2
    go_enter Try.func30, Try.ntmps30
    go_wp2_with fail
    rw [show ((v : Int) % 4294967296) = ((v % 4294967296 : Nat) : Int) by omega]
    refine (refU32_any _ a o c L bs e0 (v % 4294967296) (by omega) h1 (by rw [num4_mod]; exact HLID.out)).mono ?_
    rw [num4_mod]
    rintro e w1 ⟨rfl, hst⟩
    go_wp2
    go_end0
    exact ⟨rfl, hstep _ _ hst⟩
  by_cases q3 : kind = 3
  · subst q3
    go_enter Try.func30, Try.ntmps30
    go_wp2_with fail
    refine (refU64_any _ a o c L bs e0 v (by omega) h1 HLID.out).mono ?_
    rintro e w1 ⟨rfl, hst⟩
    go_wp2
    go_end0
    exact ⟨rfl, hstep _ _ hst⟩
  by_cases q4 : kind = 4
  · subst q4
    go_enter Try.func30, Try.ntmps30
    go_wp2_with fail
    refine (refWText_any _ a o c L bs e0 s hs1 h1 HLID.out).mono ?_
    rintro e w1 ⟨rfl, hst⟩
    go_wp2
    go_end0
    exact ⟨rfl, hstep _ _ hst⟩
  by_cases q5 : kind = 5
  · subst q5
    have hrow1 := hrow.keeps hkb (fun _ _ h => h)
    go_enter Try.func30, Try.ntmps30
    go_wp2_with fail
    refine (refWTexts_any _ a o c L bs e0 ol _ cl ss rfl hrow1 hl2 (by omega) hM h1 HLID.out).mono ?_
    rintro e w1 ⟨rfl, hst⟩
    go_wp2
    go_end0
    exact ⟨rfl, hstep _ _ hst⟩
  · go_enter Try.func30, Try.ntmps30
    go_wp2
    go_end0
    refine ⟨rfl, ?_⟩
    have e : OpV.news ⟨kind, v, s, ol, cl, ss, N, M⟩ = [] := by simp [OpV.news, q1, q2, q3, q4, q5]
    rw [e, lay_nil _ _ _ h.fit]
    exact ⟨o, c, h1, .inl rfl, hkb.mono (fun _ h => h.elim)⟩

set_option maxRecDepth 10000 in
theorem outs_any (w : World) (a : Nat) (o : Option Addr) (c L : Nat) (bs : List Nat) (e0 : Nat) (a2 : Nat) (o2 : Option Addr) (c2 L2 : Nat) (h : IsW 65 w a o c L bs e0) (h2 : IsW 85 w a2 o2 c2 L2 bs e0) :
    Calls Try.prog 32 #[.pointer (some ⟨a, 0, none⟩), .pointer (some ⟨a2, 0, none⟩)] w fun e w' => e = .returned (.bool true) ∧ Keeps (fun _ => False) w w' := by
  have hlid := h.lid
  go_enter Try.func32, Try.ntmps32
  go_wp2_with fail
  refine (wOut_any w a o c L bs e0 h).mono ?_
  rintro e w1 ⟨hk1, ⟨he, rfl⟩ | ⟨rfl, o1, c1, rfl, hown1, hnew1⟩⟩
  · go_wp2_with fail
    refine (refOut_any w1 a2 o2 c2 L2 bs e0 (h2.keeps hk1 (fun _ _ h => h))).mono ?_
    rintro e w2 ⟨hk2, ⟨_, rfl⟩ | ⟨h0, _⟩⟩
    · go_wp2_with fail
      refine (same_eq w2 none 0 0 none 0 0 [] rfl rfl ⟨by simp, by simp, .inl rfl⟩ ⟨by simp, by simp, .inl rfl⟩).mono ?_
      rintro e w3 ⟨rfl, rfl⟩
      go_wp2
      go_ret
      exact ⟨rfl, hk1.trans hk2⟩
    · exact absurd h0 he
  · go_wp2_with fail
    refine (refOut_any w1 a2 o2 c2 L2 bs 0 (h2.keeps hk1 (fun _ _ h => h))).mono ?_
    rintro e w2 ⟨hk2, ⟨h0, _⟩ | ⟨_, o3, c3, rfl, hown3, hnew3⟩⟩
    · exact absurd rfl h0
    · go_wp2_with fail
      refine (same_eq w2 o1 _ c1 o3 _ c3 bs rfl rfl ((hown1.keeps hk2 (fun _ _ h => h)).row h.byt (by omega)) (hown3.row h.byt (by omega))).mono ?_
      rintro e w3 ⟨rfl, rfl⟩
      go_wp2
      go_ret
      exact ⟨rfl, hk1.trans hk2⟩
end Go.Proofs.Ytclheacjhkoocaa

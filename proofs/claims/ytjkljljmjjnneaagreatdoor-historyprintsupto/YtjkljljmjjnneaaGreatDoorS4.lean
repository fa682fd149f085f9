/- The law's own: known. -/
import Derived.Test.YtjkljljmjjnneaaGreatDoorS3
import Derived.Test.YtjkljljmjjnneaaGreatDoorI4
namespace Go.Proofs.YtjkljljmjjnneaaGreatDoor
open Go.RowKit Go.Sort Orl
set_option linter.unusedVariables false
set_option linter.unusedSimpArgs false

theorem map_inj {α β : Type} {f : α → β} (hf : ∀ x y, f x = f y → x = y) : ∀ {l m : List α}, l.map f = m.map f → l = m
  | [], [], _ => rfl
  | [], b :: m, h => by cases h
  | a :: l, [], h => by cases h
  | a :: l, b :: m, h => by
    rw [List.map_cons, List.map_cons] at h
    injection h with h1 h2
    rw [hf _ _ h1, map_inj hf h2]
theorem bts_inj {l m : List Tx} (h : bts l = bts m) : l = m := map_inj (fun x y h => tx_ext h) h
theorem prB_inj {p q : Pr} (h : prB p = prB q) : p = q := Prod.ext (tx_ext (congrArg Prod.fst h)) (tx_ext (congrArg Prod.snd h))
theorem vrB_inj {v u : Ver} (h : vrB v = vrB u) : v = u := by
  rcases v with ⟨a1, a2, a3, a4⟩
  rcases u with ⟨b1, b2, b3, b4⟩
  unfold vrB at h
  injection h with h1 h2 h3 h4
  simp only at h1 h2 h3 h4
  rw [tx_ext h1, h2, tx_ext h3, bts_inj h4]
theorem EvB.inj {e f : Ev} {x : Eb} (h : EvB e x) (k : EvB f x) : e = f :=
  (ev_eq e f).2 ⟨h.kind.trans k.kind.symm, h.client.trans k.client.symm, h.txn.trans k.txn.symm, h.id.trans k.id.symm, bts_inj (h.keys.trans k.keys.symm), map_inj (fun _ _ => prB_inj) (h.pairs.trans k.pairs.symm), h.atxn.trans k.atxn.symm, h.ares.trans k.ares.symm, h.aid.trans k.aid.symm, map_inj (fun _ _ => vrB_inj) (h.vers.trans k.vers.symm)⟩
theorem list_getD_ext {α : Type} (d : α) : ∀ {l m : List α}, l.length = m.length → (∀ j, j < l.length → l.getD j d = m.getD j d) → l = m
  | [], [], _, _ => rfl
  | a :: l, [], h, _ => by cases h
  | [], b :: m, h, _ => by cases h
  | a :: l, b :: m, h, k => by
    have h0 := k 0 (by simp)
    simp only [List.getD_cons_zero] at h0
    exact congr (congrArg List.cons h0) (list_getD_ext d (by simpa using h) (fun j hj => by have := k (j + 1) (by simpa using hj); simpa using this))
/-- what is read out of one text is one list -/
theorem evB_inj {es fs : List Ev} {xs : List Eb} (h1 : es.length = xs.length) (h2 : fs.length = xs.length) (e1 : ∀ j, j < xs.length → EvB (es.getD j ev0) (xs.getD j eb0)) (e2 : ∀ j, j < xs.length → EvB (fs.getD j ev0) (xs.getD j eb0)) : es = fs :=
  list_getD_ext ev0 (by omega) fun j hj => (e1 j (by omega)).inj (e2 j (by omega))
/-- Parse: told as events -/
theorem parse_evs (w : World) (hv : Vs w) (s : ByteArray) (hs : s.size ≤ 4294967000) : Calls Tryz.prog 13 #[.string s] w fun e w' => Keeps no w w' ∧ match parseR s.data.toList with
    | (none, k) => e = .returned (.tuple #[.slice none 0 0, .int .i64 (k : Nat), .int .i64 2])
    | (some xs, _) => ∃ (o : Option Addr) (n c : Nat) (rs : List RE) (es : List Ev), e = .returned (.tuple #[.slice o n c, .int .i64 0, .int .i64 0]) ∧ n = es.length ∧ Evs w' o c rs es ∧ SzL es ∧ printV es = .tuple #[.string s, .int .i64 0] ∧ es.length = xs.length ∧ ∀ j, j < xs.length → EvB (es.getD j ev0) (xs.getD j eb0) := by
  refine (parse_any w hv s hs).mono ?_
  rintro e w' ⟨hk, h⟩
  refine ⟨hk, ?_⟩
  obtain ⟨p, hp⟩ : ∃ p, p = parseR s.data.toList := ⟨_, rfl⟩
  rw [← hp] at h ⊢
  rcases p with ⟨_ | xs, k⟩
  · exact h
  · obtain ⟨o, n, c, rs, rfl, hn, ho, _, hb⟩ := h
    obtain ⟨es, h1, h2, h3⟩ := hb.evs ho.sl
    obtain ⟨z1, z2, _⟩ := parse_print hp.symm (by rw [data_len]; exact hs) h2 h3
    exact ⟨o, n, c, rs, es, rfl, by rw [hn, h2], h1, z1, by rw [z2], h2, h3⟩
def twoT : Tx := ⟨#[48, 32, 49, 32, 119, 114, 105, 116, 101, 32, 54, 53, 53, 51, 54, 32, 97, 61, 49, 32, 37, 61, 120, 37, 50, 48, 121, 10, 48, 32, 49, 32, 111, 107, 32, 54, 53, 53, 51, 54, 10]⟩
def twoX : List Eb := [⟨1, 0, 1, 65536, [([97], [49]), ([], [120, 32, 121])], [], 0, 0, []⟩, ⟨3, 0, 1, 0, [], [], 1, 65536, []⟩]
theorem two_parse : parseR twoT.data.toList = (some twoX, 0) := by kernel_rfl
theorem two_print : printV twoE = .tuple #[.string twoT, .int .i64 0] := by kernel_rfl
theorem bad_parse : parseR (⟨#[48, 32, 49, 32, 114, 101, 97, 100, 32, 97, 10, 48, 32, 48, 49, 32, 114, 101, 97, 100, 10]⟩ : Tx).data.toList = (none, 2) := by kernel_rfl
theorem two_proper : properB twoE = true := by kernel_rfl
theorem two_not : properB (twoE.drop 1) = false := by kernel_rfl
theorem two_evB : ∀ j, j < twoX.length → EvB (twoE.getD j ev0) (twoX.getD j eb0)
  | 0, _ => ⟨rfl, rfl, rfl, rfl, rfl, rfl, rfl, rfl, rfl, rfl⟩
  | 1, _ => ⟨rfl, rfl, rfl, rfl, rfl, rfl, rfl, rfl, rfl, rfl⟩
  | j + 2, h => absurd (show j + 2 < 2 from h) (by omega)
theorem two_sz : SzL twoE := by
  refine ⟨fun e he => ?_, by decide, by decide⟩
  rcases List.mem_cons.1 he with rfl | he
  · exact ⟨by decide, by decide, fun _ h => (by cases h), by decide, by decide, by decide, fun _ h => (by cases h), by decide⟩
  · rcases List.mem_cons.1 he with rfl | he
    · exact ⟨by decide, by decide, fun _ h => (by cases h), by decide, by decide, by decide, fun _ h => (by cases h), by decide⟩
    · cases he
theorem SzL.drop {es : List Ev} (h : SzL es) (n : Nat) : SzL (es.drop n) := by
  refine ⟨fun e he => h.each e (List.mem_of_mem_drop he), by rw [List.length_drop]; have := h.len; omega, ?_⟩
  have h1 := h.wt
  rw [← List.take_append_drop n es, List.map_append, List.sum_append] at h1
  omega
theorem Evs.drop {w : World} {o : Option Addr} {c : Nat} {rs : List RE} {es : List Ev} (h : Evs w o c rs es) (n : Nat) (o' : Option Addr) (ho : n < es.length → ∀ b off, o = some ⟨b, off, none⟩ → o' = some ⟨b, off + n * 10, none⟩) (hn : o' = none → c - n = 0) : Evs w o' (c - n) (rs.drop n) (es.drop n) := by
  refine ⟨⟨h.sl.row.drop okE n (fun hl => ho (by rw [← h.len]; exact hl)), ?_, hn⟩, by rw [List.length_drop, List.length_drop, h.len], fun j hj => ?_⟩
  · rw [List.length_drop]
    have := h.sl.cap
    omega
  · rw [List.length_drop] at hj
    have := h.each (n + j) (by omega)
    simpa [List.getD_eq_getElem?_getD, List.getElem?_drop] using this
end Go.Proofs.YtjkljljmjjnneaaGreatDoor

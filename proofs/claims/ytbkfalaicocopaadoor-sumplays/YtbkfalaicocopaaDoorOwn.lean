import Derived.Test.YtbkfalaicocopaaDoorAlive
import Derived.Laws.AppendOwnNone
import Derived.Laws.BytesString
namespace Go.Proofs.YtbkfalaicocopaaDoor
open Go.RowKit
open Crc
set_option linter.unusedVariables false

theorem info5 : (Tryd.prog.info? 5).map (fun i => (i.zero, i.size, i.bytes)) = some (some (.int .u8 0), 1, 1) := by kernel_rfl

def vals (bs : List Nat) : List Value := bs.map fun c => Value.int .u8 (c : Nat)

/-- a row of bytes that the call itself has made, from block 'base' on -/
def Mine (base : Nat) (w : World) (g cap : Nat) (bs : List Nat) : Prop := w.ownsRow base 5 1 (.slice (some ⟨g, 0, none⟩) bs.length cap) bs.length (vals bs)

theorem Mine.row {base g cap : Nat} {w : World} {bs : List Nat} (h : Mine base w g cap bs) (hby : ∀ c ∈ bs, c < 256) (hl : bs.length ≤ 9223372036854775807) :
    Row w (some ⟨g, 0, none⟩) bs := by
  refine ⟨hby, hl, .inr ⟨_, _, rfl, fun j hj => ?_⟩⟩
  rw [Nat.zero_add, World.ownsRow.cellAt h j (by omega)]
  simp [vals, hj]

theorem mine_of {base : Nat} {w : World} {v : Value} {bs : List Nat} (h : w.ownsRow base 5 1 v (0 + bs.length) ([] ++ vals bs)) (hv : ¬ v = .slice none 0 0) :
    ∃ g c, v = .slice (some ⟨g, 0, none⟩) bs.length c ∧ base ≤ g ∧ Mine base w g c bs := by
  rw [Nat.zero_add, List.nil_append] at h
  rcases h.2 with ⟨h', _⟩ | ⟨g, cap, cur, rfl, hb, _⟩
  · exact absurd h' hv
  · exact ⟨g, cap, rfl, hb, h⟩

theorem owns_new (w : World) : (w.alloc (.cells #[] 5)).ownsRow w.heap.size 5 1 (.slice (some ⟨w.heap.size, 0, none⟩) 0 0) 0 [] := by
  refine ⟨by simp, .inr ⟨w.heap.size, 0, #[], rfl, Nat.le_refl _, ?_, Nat.le_refl _, by unfold maxLen; omega, by simp, by simp⟩⟩
  show (w.heap.push _)[w.heap.size]? = _
  simp

theorem addr_add (b off j : Nat) : Addr.add ⟨b, off, none⟩ j = ⟨b, off + j, none⟩ := by
  unfold Addr.add
  split
  · rename_i h
    have : j = 0 := by simpa using h
    subst this; rfl
  · rfl

/-- bytes as a text -/
def text (bs : List Nat) : ByteArray := ⟨(bs.map UInt8.ofNat).toArray⟩
theorem nats_text (bs : List Nat) (h : ∀ c ∈ bs, c < 256) : nats (text bs) = bs := by
  unfold nats text
  rw [List.toList_toArray, List.map_map]
  conv => rhs; rw [← List.map_id bs]
  apply List.map_congr_left
  intro c hc
  have := h c hc
  simp [UInt8.toNat_ofNat']
  omega
theorem size_text (bs : List Nat) : (text bs).size = bs.length := by simp [text, ByteArray.size]
theorem foldl_push (ns : List Int) : ∀ (s : ByteArray), ns.foldl (fun r n => r.push (UInt8.ofNat n.toNat)) s = ⟨s.data ++ (ns.map fun n => UInt8.ofNat n.toNat).toArray⟩ := by
  induction ns with
  | nil => intro s; simp
  | cons n ns ih =>
    intro s
    rw [List.foldl_cons, ih]
    simp [ByteArray.push]
theorem run_text (w : World) (a : Option Addr) (bs : List Nat) (n cap : Nat) (hn : n = bs.length) (hr : Row w a bs) :
    (convert 25 9 (.slice a n cap)).run Tryd.prog w = .ok (.string (text bs)) w := by
  subst hn
  rw [run_convert_bytes_string w 25 9 5 a bs.length cap Tryd.underlying25 Tryd.underlying5 Tryd.underlying9]
  obtain ⟨hby, hm, hcell⟩ := hr
  match a with
  | none =>
    obtain rfl : bs = [] := by rcases hcell with h | ⟨b, off, h, _⟩; exact h; cases h
    simp [Conv.bytesToString, text]
    rfl
  | some ad =>
    have hload := run_loadCells_list (P := Tryd.prog) w ad (vals bs) (by
      intro j u hj
      have hjl : j < bs.length := by
        have := (List.getElem?_eq_some_iff.mp hj).1
        simpa [vals] using this
      rcases hcell with h | ⟨b, off, h, hc⟩
      · rw [h] at hjl; simp at hjl
      · cases h
        have := hc j hjl
        have e : u = .int .u8 (bs.getD j 0 : Nat) := by
          simp [vals, hjl] at hj
          simp [hjl, hj]
        rw [e, addr_add]
        exact this)
    have e : vals bs = (bs.map fun c => ((c : Nat) : Int)).map (Value.int .u8) := by simp [vals]
    rw [show (vals bs).length = bs.length by simp [vals]] at hload
    rw [e] at hload
    rw [run_bytesToString w ad bs.length cap _ hload, foldl_push]
    congr 2
    simp [text]

theorem own_any (w : World) (a : Option Addr) (bs : List Nat) (cap : Nat) (hr : Row w a bs) (hnil : a = none → cap = 0) (hlen : bs.length ≤ 140737488351232) :
    Calls Tryd.prog 12 #[.slice a bs.length cap] w fun e w' => ∃ g c, e = .returned (.slice (some ⟨g, 0, none⟩) bs.length c) ∧ w.heap.size ≤ g ∧ Mine w.heap.size w' g c bs ∧ Below w.heap.size w w' := by
  obtain ⟨i0, hi, hz0, hz1, hz2⟩ := info_parts info5
  obtain ⟨hby, hm, hcell⟩ := hr
  have hown := owns_new w
  match a with
  | none =>
    obtain rfl : bs = [] := by rcases hcell with h | ⟨b, off, h, _⟩; exact h; cases h
    obtain rfl : cap = 0 := hnil rfl
    go_enter Tryd.func12, Tryd.ntmps12
    go_wp2_with (at_builtin; go_must (refine wpList_append_own_none rfl _ _ 25 rfl w.heap.size 5 i0 1 Tryd.underlying25 hi _ 0 [] rfl hown rfl ?_))
    go_ret
    exact ⟨w.heap.size, 0, rfl, Nat.le_refl _, hown, (Below.refl _ _).alloc (Nat.le_refl _) _⟩
  | some ad =>
    have hnews : ∀ j u, (vals bs)[j]? = some u → (w.alloc (.cells #[] 5)).cell? (ad.add j) = some u := by
      intro j u hj
      have hjl : j < bs.length := by
        have := (List.getElem?_eq_some_iff.mp hj).1
        simpa [vals] using this
      rcases hcell with h | ⟨b, off, h, hc⟩
      · rw [h] at hjl; simp at hjl
      · cases h
        have := hc j hjl
        rw [← addr_add] at this
        have e : u = .int .u8 (bs.getD j 0 : Nat) := by
          simp [vals, hjl] at hj
          simp [hjl, hj]
        rw [e]
        exact Lib.cell?_alloc_some (.cells #[] 5) this
    go_enter Tryd.func12, Tryd.ntmps12
    go_wp2_with (at_builtin; go_must (refine wpList_append_own _ rfl _ _ 25 rfl w.heap.size 5 i0 (.int .u8 0) 1 1 Tryd.underlying25 hi hz0 hz1 hz2 rfl (by decide) (.slice (some ⟨w.heap.size, 0, none⟩) 0 0) 0 [] (by rfl) hown ad _ _ (vals bs) (by rfl) (by simp [vals]) hnews (by intro u hu; simp [vals] at hu; obtain ⟨c, _, rfl⟩ := hu; rfl) (by unfold maxLen; omega) (by omega) (by simp) ?_); intro v' w1 hown' hgrow hne)
    go_ret
    obtain ⟨g, c, rfl, hb, hmine⟩ := mine_of hown' (by rw [hne]; simp)
    exact ⟨g, c, rfl, hb, hmine, ((Below.refl _ _).alloc (Nat.le_refl _) _).trans ((Below.refl _ _).grown hgrow (by simp) (fun k hk => by simp [Value.ownBlock] at hk; omega))⟩
end Go.Proofs.YtbkfalaicocopaaDoor

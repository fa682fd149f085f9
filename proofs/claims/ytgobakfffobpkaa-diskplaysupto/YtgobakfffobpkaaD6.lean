/- Append, Rename. -/
import Derived.Test.YtgobakfffobpkaaD5
namespace Go.Proofs.Ytgobakfffobpkaa
open Go.RowKit Dk
set_option linter.unusedVariables false
set_option linter.unusedSimpArgs false

/-- the blocks of a disk behind a call that may lay more -/
def grow (F : Nat → Prop) (w w' : World) : Nat → Prop := fun k => F k ∨ (w.heap.size ≤ k ∧ k < w'.heap.size)
theorem put_put {β : Type} {n : Nm} {u v : β} {l : List (Nm × β)} (hl : Inc l) : put n v (put n u l) = put n v l := by
  refine inc_ext (inc_put (inc_put hl)) (inc_put hl) fun m => ?_
  by_cases e : m = n
  · subst e; rw [find_put_same, find_put_same]
  · rw [find_put_other e, find_put_other e, find_put_other e]

/-- bytes behind a file's -/
theorem app_file {w w3 : World} {p : Nat} {F : Nat → Prop} {s : St} {bm : Nat} {c : Int} {L : LL} {n : Nm} {x : Lo} {b : List UInt8} {o' : Option Addr} {c' : Nat} (h : DL w p F s bm c L) (hf : find n L = some x) (ho : Own BE w3 o' c' (x.bs ++ b)) (hap : Ap w x.o o' w3)
    (hok : Ok { s with fs := put n ⟨x.bs ++ b, x.sy⟩ s.fs }) :
    DL (w3.setCell ⟨x.p, 0, none⟩ (.slice o' (x.bs.length + b.length) c')) p (grow F w (w3.setCell ⟨x.p, 0, none⟩ (.slice o' (x.bs.length + b.length) c'))) { s with fs := put n ⟨x.bs ++ b, x.sy⟩ s.fs } bm c (put n ⟨x.p, o', c', x.bs ++ b, x.sy⟩ L) ∧
      Keeps F w (w3.setCell ⟨x.p, 0, none⟩ (.slice o' (x.bs.length + b.length) c')) := by
  have hm := find_mem hf
  have hx := h.files _ hm
  have hk3 : Keeps (inO x.o) w w3 := by
    rcases hap with ⟨_, hk⟩ | ⟨_, hk⟩
    · exact hk
    · exact hk.of_no
  have hx3 : w3.heap[x.p]? = some (.cells (fcells x) 72 (0, 0)) := hk3.at hx.blk (fun e => hx.o_p hx _ e rfl)
  have hks := keeps_set w3 x.p 0 (.slice o' (x.bs.length + b.length) c')
  have hK : Keeps (fun k => k = x.p ∨ inO x.o k) w (w3.setCell ⟨x.p, 0, none⟩ (.slice o' (x.bs.length + b.length) c')) := (hk3.mono fun i e => .inr e).trans (hks.mono fun i e => .inl e)
  have hne : ∀ k, inO o' k → k ≠ x.p := fun k hk => by
    obtain ⟨cur, hc⟩ := ho.tag k hk
    exact ne_cells hc hx3 (by decide)
  have hx' : FileAt (w3.setCell ⟨x.p, 0, none⟩ (.slice o' (x.bs.length + b.length) c')) ⟨x.p, o', c', x.bs ++ b, x.sy⟩ :=
    ⟨(blk_set hx3 0 _).trans (by simp [fcells]), ho.keeps hks (fun i hi e => hne i hi e)⟩
  have hnew : ∀ k, inO o' k → inO x.o k ∨ w.heap.size ≤ k := by
    intro k hk
    rcases hap with ⟨e, _⟩ | ⟨⟨g, e, hg⟩, _⟩
    · rw [e] at hk; exact .inl hk
    · rw [e] at hk; obtain ⟨y, hy, rfl⟩ := hk; cases hy; exact .inr hg
  refine ⟨h.upd hf hK hx' rfl hnew (fun k hk => .inl hk) ?_ ?_ hok, hK.mono ?_⟩
  · intro k hk
    rcases hnew k hk with e | e
    · exact .inl ((h.ff _ hm).2 k e)
    · exact .inr ⟨e, Nat.lt_of_lt_of_le (ho.lt k hk) hks.size⟩
  · rintro k (hk | hk)
    · exact Nat.lt_of_lt_of_le (h.lt k hk) hK.size
    · exact hk.2
  · rintro i (rfl | e)
    · exact (h.ff _ hm).1
    · exact (h.ff _ hm).2 i e

/-- a file laid under a name that no file has, or in the place of one -/
theorem DL.lay {w w' : World} {p : Nat} {F F' : Nat → Prop} {s : St} {bm : Nat} {c : Int} {L : LL} {n : Nm} {x : Lo} (h : DL w p F s bm c L) (hx : FileAt w x) (hap : ∀ q ∈ L, q.1 ≠ n → q.2.p ≠ x.p ∧ ∀ k, inO q.2.o k → ¬ inO x.o k) (hm : IsM w' bm (put n x L)) (hk : Keeps (fun i => i = bm) w w')
    (hF : ∀ k, F k → F' k) (hF1 : F' x.p) (hF2 : ∀ k, inO x.o k → F' k) (hl : ∀ k, F' k → k < w'.heap.size) (hok : Ok { s with fs := put n x.fl s.fs }) : DL w' p F' { s with fs := put n x.fl s.fs } bm c (put n x L) := by
  refine ⟨hk.at h.blk h.p_bm, hm, by show put n x.fl s.fs = _; rw [h.fs, mapv_put], ?_, ?_, hF _ h.fp, hF _ h.fm, ?_, hl, hok, h.cc, h.ci, h.ki, h.ri⟩
  · intro q hq
    rcases mem_put.1 hq with rfl | ⟨hq, _⟩
    · exact hx.keeps hk (hx.ne_bm h.map) (hx.o_bm h.map)
    · exact (h.files q hq).keeps hk ((h.files q hq).ne_bm h.map) ((h.files q hq).o_bm h.map)
  · refine apart_mk (inc_put h.inc) ?_
    intro q hq r hr hne
    rcases mem_put.1 hq with rfl | ⟨hq, hqn⟩
    · rcases mem_put.1 hr with rfl | ⟨hr, hrn⟩
      · exact absurd rfl hne
      · have := hap r hr hrn
        exact ⟨this.1.symm, fun k h1 h2 => this.2 k h2 h1⟩
    · rcases mem_put.1 hr with rfl | ⟨hr, hrn⟩
      · exact hap q hq hqn
      · exact apart_of h.apart hq hr hne
  · intro q hq
    rcases mem_put.1 hq with rfl | ⟨hq, _⟩
    · exact ⟨hF1, hF2⟩
    · exact ⟨hF _ (h.ff q hq).1, fun k hk => hF _ ((h.ff q hq).2 k hk)⟩

theorem dl_alloc {w : World} {p : Nat} {F : Nat → Prop} {s : St} {bm : Nat} {c : Int} {L : LL} (h : DL w p F s bm c L) (o : Obj) : DL (w.alloc o) p F s bm c L := h.keeps ((Keeps.refl no w).alloc o) (fun _ _ => id)
/-- a new file, empty -/
def nlo (w : World) : Lo := ⟨w.heap.size, none, 0, [], 0⟩
theorem nlo_at (w : World) : FileAt (w.alloc (.cells #[.slice none 0 0, .int .i64 0] 72)) (nlo w) := ⟨blk_new w _, own_nil _⟩

theorem dl_new {w w2 : World} {p : Nat} {F : Nat → Prop} {s : St} {bm : Nat} {c : Int} {L : LL} {n : Nm} (h : DL w p F s bm c L) (hn : good n = true) (hf : find n s.fs = none) (hl : s.fs.length < 16) (hm : IsM w2 bm (put n (nlo w) L)) (hk : Keeps (fun i => i = bm) (w.alloc (.cells #[.slice none 0 0, .int .i64 0] 72)) w2) :
    DL w2 p (grow F w w2) { s with fs := put n ⟨[], 0⟩ s.fs } bm c (put n (nlo w) L) ∧ Keeps F w w2 := by
  have hs := hk.size
  simp only [World.size_alloc] at hs
  refine ⟨(dl_alloc h _).lay (nlo_at w) ?_ hm hk (fun k hk => .inl hk) (.inr ⟨Nat.le_refl _, by show w.heap.size < _; omega⟩) (by rintro k ⟨y, e, _⟩; cases e) ?_ ?_, ?_⟩
  · intro q hq _
    refine ⟨fun e => ?_, fun k _ => by rintro ⟨y, e, _⟩; cases e⟩
    have := h.lt _ (h.ff q hq).1
    rw [e] at this
    simp [nlo] at this
  · rintro k (hk | hk)
    · have := h.lt k hk; omega
    · exact hk.2
  · exact ok_put h.ok hn (Nat.le_refl _) (by show (put n (nlo w).fl s.fs).length ≤ 16; rw [length_put_none hf]; omega)
  · exact ((Keeps.refl F w).alloc _).then hk (fun i e => .inl (by subst e; exact h.fm))
end Go.Proofs.Ytgobakfffobpkaa

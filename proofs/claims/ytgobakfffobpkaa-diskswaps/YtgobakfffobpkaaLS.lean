/- DiskSwaps' walk: the cases joined. -/
import Derived.Test.YtgobakfffobpkaaLS0
import Derived.Test.YtgobakfffobpkaaLS1
import Derived.Test.YtgobakfffobpkaaLS2
import Derived.Test.YtgobakfffobpkaaLS3
import Derived.Test.YtgobakfffobpkaaLS4
import Derived.Test.YtgobakfffobpkaaLS5
namespace Go.Proofs.Ytgobakfffobpkaa
open Go.RowKit Dk
theorem diskSwaps_any (w : World) (oa : Option Addr) (na ca : Nat) (ob : Option Addr) (nb cb : Nat) (n keep parts : Int) (xs ys : List UInt8) (hna : na = xs.length) (hnb : nb = ys.length) (ha : Sl BE w oa ca xs) (hb : Sl BE w ob cb ys) (hx : xs.length ≤ 140737488351232) (hy : ys.length ≤ 140737488351232) (hn : i64 n) (hk : i64 keep) (hp : i64 parts) :
    Calls Try.prog 3 #[.slice oa na ca, .slice ob nb cb, .int .i64 n, .int .i64 keep, .int .i64 parts] w fun e w' => e = .returned (.bool true) ∧ Keeps no w w' := by
  have hM := i64_and7 n
  obtain ⟨M, hm⟩ : ∃ M, M = n % 8 := ⟨_, rfl⟩
  rw [← hm] at hM
  have h7 : M ≤ 7 := by omega
  by_cases h0 : M = 0
  · exact swaps_0 w oa na ca ob nb cb n keep parts xs ys hna hnb ha hb hx hy hn hk hp M hM h0 h7
  by_cases h1 : M = 1
  · exact swaps_1 w oa na ca ob nb cb n keep parts xs ys hna hnb ha hb hx hy hn hk hp M hM h1 h7
  by_cases h2 : M = 2
  · exact swaps_2 w oa na ca ob nb cb n keep parts xs ys hna hnb ha hb hx hy hn hk hp M hM h2 h7
  by_cases h3 : M = 3
  · exact swaps_3 w oa na ca ob nb cb n keep parts xs ys hna hnb ha hb hx hy hn hk hp M hM h3 h7
  by_cases h4 : M = 4
  · exact swaps_4 w oa na ca ob nb cb n keep parts xs ys hna hnb ha hb hx hy hn hk hp M hM h4 h7
  exact swaps_5 w oa na ca ob nb cb n keep parts xs ys hna hnb ha hb hx hy hn hk hp M hM (by omega) h7
end Go.Proofs.Ytgobakfffobpkaa

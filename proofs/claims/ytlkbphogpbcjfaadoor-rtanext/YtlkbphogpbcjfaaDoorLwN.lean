/- RtaNext, walked. -/
import Derived.Test.YtlkbphogpbcjfaaDoorRtK
import Derived.Test.YtlkbphogpbcjfaaDoorRtL
namespace Go.Proofs.YtlkbphogpbcjfaaDoor
open Go.RowKit Go.Sort

set_option maxHeartbeats 4000000 in
set_option maxRecDepth 10000 in
theorem rnx_law (r own : Int) (a : Option Addr) (c : Nat) (l : List LoadD) (w : World) (hr : Rdy w) (hA : AtL w a l) (h1 : r ≤ 9223372036854775807) (h2 : own ≤ 9223372036854775807) :
    Calls Tryd.prog 3 #[.int .i64 r, .int .i64 own, .slice a l.length c] w fun e w' => e = .returned (.bool true) ∧ Kept w w' := by
  have HA : Hid (AtL w a l) := hA
  have hk := lknown_true w hr
  clear hr hA
  go_enter Tryd.func3, Tryd.ntmps3
  go_wp2_with fail
  refine hk.mono ?_
  rintro e w1 ⟨rfl, K1⟩
  clear hk
  by_cases hl : (l.length : Int) > 30
  · go_wp2_with fail
    go_ret
    exact ⟨rfl, K1⟩
  have hl2 : l.length ≤ 1000 := by omega
  have hn := next_any a c l r own w1 (HA.out.kept K1) hl2 h1 h2
  obtain ⟨⟨n1, n2⟩, hz⟩ : ∃ z, nextR r own l = z := ⟨_, rfl⟩
  have HZ : Hid (nextR r own l = (n1, n2)) := hz
  rw [hz] at hn
  clear hz
  go_wp2_with fail
  refine hn.mono ?_
  rintro e w2 ⟨rfl, T2⟩
  have K2 := K1.trans T2
  have hlo := loads_any a c l w2 (HA.out.kept K2) hl2
  clear hn T2 K1
  go_wp2_with fail
  refine hlo.mono ?_
  rintro e w3 ⟨b, c', rfl, A3, T3⟩
  have K3 := K2.trans T3
  have hn := rnext_any b c' l r own w3 A3 hl2 h1 h2
  rw [HZ.out] at hn
  clear hlo T3 K2 A3
  go_wp2_with fail
  refine hn.mono ?_
  rintro e w4 ⟨rfl, T4⟩
  have K4 := K3.trans T4
  clear hn T4 K3
  go_wp2_with fail
  go_ret
  exact ⟨rfl, K4⟩
end Go.Proofs.YtlkbphogpbcjfaaDoor

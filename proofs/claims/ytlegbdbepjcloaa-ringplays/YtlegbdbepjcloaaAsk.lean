/- New, Len and Room of a ring by their contracts. -/
import Derived.Test.YtlegbdbepjcloaaComm
import Derived.KernelRfl
namespace Go.Proofs.Ytlegbdbepjcloaa
open Go.RowKit Go.Conc

theorem bytes2 : ∃ i, Try.prog.info? 2 = some i ∧ i.bytes = 8 := by
  have h : (Try.prog.info? 2).map (·.bytes) = some 8 := by kernel_rfl
  obtain ⟨i, hi, hb⟩ := Option.map_eq_some_iff.1 h
  exact ⟨i, hi, hb⟩
theorem mk (n : Nat) (hn : n ≤ 16) (w : World) : (Instr.makeChan 44 (.int .i64 n)).run Try.prog w = .ok (.chan (some w.heap.size)) (w.alloc (.chan n #[] false 0 0 false)) := by
  obtain ⟨i, hi, hb⟩ := bytes2
  simpa using run_makeChan (P := Try.prog) (w := w) Try.underlying44 hi .i64 n (by omega) (by rw [hb]; omega)

/-- A ring that was just made. -/
theorem rp_made (B n : Nat) (w : World) (hB : B ≤ w.heap.size) (hn : n ≤ 16) : RP B ((w.alloc (.chan n #[] false 0 0 false)).alloc (.cells #[.chan (some w.heap.size)] 46)) (w.heap.size + 1) w.heap.size n [] := by
  refine ⟨?_, ⟨0, 0, ?_⟩, hB, by omega, by simp, hn⟩
  · have := World.ownsRow_lit (base := B) (e := 46) (size := 1) (w.alloc (.chan n #[] false 0 0 false)) #[.chan (some w.heap.size)] 1 (le_alloc _ hB) (by unfold maxLen; omega) rfl
    simpa using this
  · rw [Below.heap_alloc _ _ _ (by simp)]
    exact heap_alloc_new w _

set_option maxHeartbeats 400000 in
theorem new_ok (B n : Nat) (w : World) (hB : B ≤ w.heap.size) (hn : n ≤ 16) :
    Calls Try.prog 8 #[.int .i64 n] w fun e w' => ∃ rb c, e = .returned (.tuple #[.pointer (some ⟨rb, 0, none⟩), .int .i64 0]) ∧ RP B w' rb c n [] ∧ Turns (fun _ => False) w w' ∧ w.heap.size ≤ rb ∧ w.heap.size ≤ c := by
  have hmk := mk n hn
  have n1 : ¬ (n : Int) < 0 := by omega
  have n2 : ¬ (n : Int) > 16 := by omega
  have n3 : ¬ (16 : Int) < (n : Int) := by omega
  go_enter Try.func8, Try.ntmps8
  go_wp2
  go_ret2
  refine ⟨w.heap.size + 1, rfl, w.heap.size, rp_made B n w hB hn, ((Turns.refl _ _).alloc _).alloc _, by omega, by omega⟩

set_option maxHeartbeats 400000 in
theorem new_bad (room : Int) (w : World) (hr : room < 0 ∨ 16 < room) :
    Calls Try.prog 8 #[.int .i64 room] w fun e w' => e = .returned (.tuple #[.pointer none, .int .i64 1]) ∧ w' = w := by
  rcases hr with hr | hr
  · have n1 : room < 0 := hr
    go_enter Try.func8, Try.ntmps8
    go_wp2
    go_ret2
    exact ⟨rfl, rfl⟩
  · have n1 : ¬ room < 0 := by omega
    have n2 : room > 16 := hr
    go_enter Try.func8, Try.ntmps8
    go_wp2
    go_ret2
    exact ⟨rfl, rfl⟩

set_option maxHeartbeats 400000 in
theorem len_any {B : Nat} {w : World} {rb c room : Nat} {row : List Int} (h : RP B w rb c room row) :
    Calls Try.prog 15 #[.pointer (some ⟨rb, 0, none⟩)] w fun e w' => e = .returned (.int .i64 row.length) ∧ w' = w := by
  have hc := h.c0
  obtain ⟨s, r, hch⟩ := h.ch
  have hlen := fun ty => run_len_chan (P := Try.prog) 44 ty Try.underlying44 hch
  simp only [List.size_toArray, List.length_map, goInt] at hlen
  go_enter Try.func15, Try.ntmps15
  go_wp2
  go_ret
  exact ⟨rfl, rfl⟩

set_option maxHeartbeats 400000 in
theorem room_any {B : Nat} {w : World} {rb c room : Nat} {row : List Int} (h : RP B w rb c room row) :
    Calls Try.prog 16 #[.pointer (some ⟨rb, 0, none⟩)] w fun e w' => e = .returned (.int .i64 (room - row.length : Nat)) ∧ Turns (fun _ => False) w w' := by
  have hc := h.c0
  have hl := h.len
  have hm := h.most
  obtain ⟨s, r, hch⟩ := h.ch
  have hlen := fun q ty => run_len_chan (P := Try.prog) (w := w.drewN q) 44 ty Try.underlying44 hch
  have hcap := fun q ty => run_cap_chan (P := Try.prog) (w := w.drewN q) 44 ty Try.underlying44 hch
  simp only [List.size_toArray, List.length_map, goInt] at hlen hcap
  have e1 : IntKind.i64.wrap ((room : Int) - (row.length : Int)) = ((room - row.length : Nat) : Int) := by
    rw [IntKind.wrap_i64]; omega
  go_enter Try.func16, Try.ntmps16
  go_wp2
  go_quiet (fail)
  go_wp2
  go_ret
  exact ⟨rfl, (Turns.refl _ _).drewN _⟩
end Go.Proofs.Ytlegbdbepjcloaa

/- read. -/
import Derived.Laws.ResultCell
import Derived.Test.YtolljdomnohmdabGreatDoorM5
import Derived.Test.YtolljdomnohmdabGreatDoorCheck
namespace Go.Proofs.YtolljdomnohmdabGreatDoor
open Go.RowKit

/-- What there is while read goes on: the answer's place, the shape, the reader, the op. -/
structure Rg (w wX : World) (sh : List Value) (ws : List (List UInt8)) (e : Int) (c : List Value) : Prop where
  ans : Box w.heap.size wX 37 w.heap.size [.int .i64 0, .int .i64 0, .int .i64 0, .int .i64 0, .slice none 0 0]
  shp : Box w.heap.size wX 95 (w.heap.size + 1 + 1) sh
  rd : Rd w.heap.size wX (w.heap.size + 1) ws e
  op : Box w.heap.size wX 37 (w.heap.size + 1 + 1 + 1) c
  kept : Kept w wX
theorem Rg.turns {w wX wY : World} {sh c : List Value} {ws ws' : List (List UInt8)} {e e' : Int} (h : Rg w wX sh ws e c) (t : Turns (fun k => k = w.heap.size + 1) wX wY) (r : Rd w.heap.size wY (w.heap.size + 1) ws' e') : Rg w wY sh ws' e' c :=
  ⟨h.ans.turns t (by omega), h.shp.turns t (by omega), r, h.op.turns t (by omega), t.kept h.kept (fun i hi => by omega)⟩
theorem Rg.set {w wX : World} {sh c : List Value} {ws : List (List UInt8)} {e : Int} (h : Rg w wX sh ws e c) (j : Nat) (v : Value) : Rg w (wX.setCell ⟨w.heap.size + 1 + 1 + 1, j, none⟩ v) sh ws e (c.set j v) := by
  have t := turn_set wX (w.heap.size + 1 + 1 + 1) j v
  exact ⟨h.ans.turns t (by omega), h.shp.turns t (by omega), h.rd.turns t (fun k hk => by omega), h.op.set j v, t.kept h.kept (fun i hi => by omega)⟩
theorem Rg.rdy {w wX : World} {sh c : List Value} {ws : List (List UInt8)} {e : Int} (h : Rg w wX sh ws e c) (hr : Rdy w) : Rdy wX := hr.kept h.kept
theorem crow_base {e : TypeId} {B B' : Nat} {w : World} {v : Value} {l : List CaseD} (h : CRow e B w v l) (hB : B' ≤ B) : CRow e B' w v l := by
  refine ⟨h.1, ?_⟩
  rcases h.2 with hn | ⟨g, cap, cur, h1, hb, rest⟩
  · exact .inl hn
  · exact .inr ⟨g, cap, cur, h1, by omega, rest⟩
theorem rg_start (w : World) (sh c : List Value) (a : Option Addr) (m : Nat) (ws : List (List UInt8)) (hs : sh.length ≤ 1000) (hc : c.length ≤ 1000) (hA : At w a ws.length ws) (hm : ws.length ≤ m) (hb : ∀ b f, a = some ⟨b, f, none⟩ → b < w.heap.size) :
    Rg w ((((w.alloc (.cells #[.int .i64 0, .int .i64 0, .int .i64 0, .int .i64 0, .slice none 0 0] 37)).alloc (.cells #[.slice a ws.length m, .int .i64 0] 161)).alloc (.cells sh.toArray 95)).alloc (.cells c.toArray 37)) sh ws 0 c := by
  have x := boxes3 w 37 161 95 [.int .i64 0, .int .i64 0, .int .i64 0, .int .i64 0, .slice none 0 0] [.slice a ws.length m, .int .i64 0] sh (by simp) (by simp) hs
  obtain ⟨x1, x2, x3, k⟩ := x
  have ka := (Kept.refl (((w.alloc (.cells [.int .i64 0, .int .i64 0, .int .i64 0, .int .i64 0, .slice none 0 0].toArray 37)).alloc (.cells [.slice a ws.length m, .int .i64 0].toArray 161)).alloc (.cells sh.toArray 95))).alloc (.cells c.toArray 37)
  have x4 := box_new w.heap.size (((w.alloc (.cells [.int .i64 0, .int .i64 0, .int .i64 0, .int .i64 0, .slice none 0 0].toArray 37)).alloc (.cells [.slice a ws.length m, .int .i64 0].toArray 161)).alloc (.cells sh.toArray 95)) 37 c k.size hc
  have e3 : (((w.alloc (.cells [.int .i64 0, .int .i64 0, .int .i64 0, .int .i64 0, .slice none 0 0].toArray 37)).alloc (.cells [.slice a ws.length m, .int .i64 0].toArray 161)).alloc (.cells sh.toArray 95)).heap.size = w.heap.size + 1 + 1 + 1 := by simp
  rw [e3] at x4
  exact ⟨x1.kept ka, x3.kept ka, ⟨a, m, x2.kept ka, hm, hA.kept (k.trans ka), hb⟩, x4, k.trans ka⟩


set_option maxHeartbeats 4000000 in
theorem read_k1 (a : Option Addr) (m : Nat) (x : List UInt8) (w : World) (hr : Rdy w) (h7 : 7 ≤ w.heap.size) (hA : At w a ([x] : List (List UInt8)).length ([x])) (hm : ([x] : List (List UInt8)).length ≤ m) (hb : ∀ b f, a = some ⟨b, f, none⟩ → b < w.heap.size) (hx : x.length ≤ 100000) :
    Calls Tryz.prog 85 #[.int .i64 1, .slice a ([x] : List (List UInt8)).length m] w fun en w' => ∃ n v wt sv cs e, en = .returned (.tuple #[.agg #[.int .i64 1, .int .i64 n, .int .i64 v, .int .i64 wt, sv], .int .i64 e]) ∧ RdA 1 ([x]) n v wt cs e ∧ CRow 57 w.heap.size w' sv cs ∧ Kept w w' := by
  obtain ⟨g0, g1, g2, g3, g4, g5, g6⟩ := hr.k1
  have hlt := hr.lt
  have HR : Hid (Rdy w) := hr
  have S0 := rg_start w [.string (B [114, 117, 110]), .bool true, .bool false, .bool false, .bool false, .int .i64 1, .int .i64 1000] [.int .i64 1, .int .i64 0, .int .i64 0, .int .i64 0, .slice none 0 0] a m ([x]) (by simp) (by simp) hA hm hb
  clear hr hA hb
  go_enter Tryz.func85, Tryz.ntmps85
  go_wp2_with fail
  refine (number_comb x S0.rd (fun _ => rfl) (by simp) hx (S0.rdy HR.out) h7).mono ?_
  rintro en w1 ⟨n, e1, ws1, rfl, st1, hw1, R1, t1⟩
  have S1 := S0.turns t1 R1
  have q0 : w1.cell? ⟨w.heap.size + 1 + 1, 1, none⟩ = some (.bool true) := S1.shp.cell 1 (by simp)
  have q1 : w1.cell? ⟨w.heap.size + 1 + 1, 2, none⟩ = some (.bool false) := S1.shp.cell 2 (by simp)
  have q2 : w1.cell? ⟨w.heap.size + 1 + 1, 3, none⟩ = some (.bool false) := S1.shp.cell 3 (by simp)
  have q3 : w1.cell? ⟨w.heap.size + 1 + 1, 4, none⟩ = some (.bool false) := S1.shp.cell 4 (by simp)
  have z1 := S1.shp.lt.2
  have z2 := S1.op.lt.2
  have o0 : w1.cell? ⟨w.heap.size + 1 + 1 + 1, 0, none⟩ = some (.int .i64 1) := S1.op.cell 0 (by simp)
  have of0 := S1.op.frozen 0
  have o1 : w1.cell? ⟨w.heap.size + 1 + 1 + 1, 1, none⟩ = some (.int .i64 0) := S1.op.cell 1 (by simp)
  have of1 := S1.op.frozen 1
  have o2 : w1.cell? ⟨w.heap.size + 1 + 1 + 1, 2, none⟩ = some (.int .i64 0) := S1.op.cell 2 (by simp)
  have of2 := S1.op.frozen 2
  have o3 : w1.cell? ⟨w.heap.size + 1 + 1 + 1, 3, none⟩ = some (.int .i64 0) := S1.op.cell 3 (by simp)
  have of3 := S1.op.frozen 3
  have o4 : w1.cell? ⟨w.heap.size + 1 + 1 + 1, 4, none⟩ = some (.slice none 0 0) := S1.op.cell 4 (by simp)
  have of4 := S1.op.frozen 4
  have S1' := S1.set 1 (.int .i64 n)
  go_wp2_with fail
  clear q0 q1 q2 q3 z1 z2 o0 o1 o2 o3 o4 of0 of1 of2 of3 of4
  have o0 : (w1.setCell ⟨w.heap.size + 1 + 1 + 1, 1, none⟩ (.int .i64 n)).cell? ⟨w.heap.size + 1 + 1 + 1, 0, none⟩ = some (.int .i64 1) := S1'.op.cell 0 (by simp)
  have of0 := S1'.op.frozen 0
  have o1 : (w1.setCell ⟨w.heap.size + 1 + 1 + 1, 1, none⟩ (.int .i64 n)).cell? ⟨w.heap.size + 1 + 1 + 1, 1, none⟩ = some (.int .i64 n) := S1'.op.cell 1 (by simp)
  have of1 := S1'.op.frozen 1
  have o2 : (w1.setCell ⟨w.heap.size + 1 + 1 + 1, 1, none⟩ (.int .i64 n)).cell? ⟨w.heap.size + 1 + 1 + 1, 2, none⟩ = some (.int .i64 0) := S1'.op.cell 2 (by simp)
  have of2 := S1'.op.frozen 2
  have o3 : (w1.setCell ⟨w.heap.size + 1 + 1 + 1, 1, none⟩ (.int .i64 n)).cell? ⟨w.heap.size + 1 + 1 + 1, 3, none⟩ = some (.int .i64 0) := S1'.op.cell 3 (by simp)
  have of3 := S1'.op.frozen 3
  have o4 : (w1.setCell ⟨w.heap.size + 1 + 1 + 1, 1, none⟩ (.int .i64 n)).cell? ⟨w.heap.size + 1 + 1 + 1, 4, none⟩ = some (.slice none 0 0) := S1'.op.cell 4 (by simp)
  have of4 := S1'.op.frozen 4
  have p0 : (w1.setCell ⟨w.heap.size + 1 + 1 + 1, 1, none⟩ (.int .i64 n)).cell? ⟨w.heap.size, 0, none⟩ = some (.int .i64 0) := S1'.ans.cell 0 (by simp)
  have pf0 := S1'.ans.frozen 0
  have p1 : (w1.setCell ⟨w.heap.size + 1 + 1 + 1, 1, none⟩ (.int .i64 n)).cell? ⟨w.heap.size, 1, none⟩ = some (.int .i64 0) := S1'.ans.cell 1 (by simp)
  have pf1 := S1'.ans.frozen 1
  have p2 : (w1.setCell ⟨w.heap.size + 1 + 1 + 1, 1, none⟩ (.int .i64 n)).cell? ⟨w.heap.size, 2, none⟩ = some (.int .i64 0) := S1'.ans.cell 2 (by simp)
  have pf2 := S1'.ans.frozen 2
  have p3 : (w1.setCell ⟨w.heap.size + 1 + 1 + 1, 1, none⟩ (.int .i64 n)).cell? ⟨w.heap.size, 3, none⟩ = some (.int .i64 0) := S1'.ans.cell 3 (by simp)
  have pf3 := S1'.ans.frozen 3
  have p4 : (w1.setCell ⟨w.heap.size + 1 + 1 + 1, 1, none⟩ (.int .i64 n)).cell? ⟨w.heap.size, 4, none⟩ = some (.slice none 0 0) := S1'.ans.cell 4 (by simp)
  have pf4 := S1'.ans.frozen 4
  have z3 := S1'.ans.lt.2
  have z2 := S1'.op.lt.2
  have z4 := S1'.rd.lt.2
  have HF : Hid (Rd w.heap.size (w1.setCell ⟨w.heap.size + 1 + 1 + 1, 1, none⟩ (.int .i64 n)) (w.heap.size + 1) _ e1) := S1'.rd
  obtain ⟨ax, cx, hbx, _⟩ := HF.out
  have ec : (w1.setCell ⟨w.heap.size + 1 + 1 + 1, 1, none⟩ (.int .i64 n)).cell? ⟨w.heap.size + 1, 1, none⟩ = some (.int .i64 e1) := hbx.cell 1 (by simp)
  clear hbx
  have KX := S1'.kept
  generalize hWX : (w1.setCell ⟨w.heap.size + 1 + 1 + 1, 1, none⟩ (.int .i64 n)) = wX at *
  clear hWX
  go_region
  all_goals
    go_wp2_with fail
    (try simp only [Exit.inBlock, Exit.then])
    have tf := turn_set5 wX w.heap.size (.int .i64 1) (.int .i64 n) (.int .i64 0) (.int .i64 0) (.slice none 0 0)
    have tg := tf.drew
    refine bodyPost_ret (v := .tuple #[.agg #[.int .i64 1, .int .i64 n, .int .i64 0, .int .i64 0, .slice none 0 0], .int .i64 e1]) ?_ rfl ⟨n, 0, 0, .slice none 0 0, [], e1, rfl, rda_one (by decide) st1, ?_, ?_⟩
    · rw [results_cell_tmp rfl]
      go_simp
    · exact CRow.nil _ _ _
    · exact tg.kept KX (fun i hi => by omega)
set_option maxHeartbeats 4000000 in
theorem read_k2 (a : Option Addr) (m : Nat) (x : List UInt8) (w : World) (hr : Rdy w) (h7 : 7 ≤ w.heap.size) (hA : At w a ([x] : List (List UInt8)).length ([x])) (hm : ([x] : List (List UInt8)).length ≤ m) (hb : ∀ b f, a = some ⟨b, f, none⟩ → b < w.heap.size) (hx : x.length ≤ 100000) :
    Calls Tryz.prog 85 #[.int .i64 2, .slice a ([x] : List (List UInt8)).length m] w fun en w' => ∃ n v wt sv cs e, en = .returned (.tuple #[.agg #[.int .i64 2, .int .i64 n, .int .i64 v, .int .i64 wt, sv], .int .i64 e]) ∧ RdA 2 ([x]) n v wt cs e ∧ CRow 57 w.heap.size w' sv cs ∧ Kept w w' := by
  obtain ⟨g0, g1, g2, g3, g4, g5, g6⟩ := hr.k2
  have hlt := hr.lt
  have HR : Hid (Rdy w) := hr
  have S0 := rg_start w [.string (B [108, 111, 99, 107]), .bool true, .bool false, .bool false, .bool false, .int .i64 0, .int .i64 7] [.int .i64 2, .int .i64 0, .int .i64 0, .int .i64 0, .slice none 0 0] a m ([x]) (by simp) (by simp) hA hm hb
  clear hr hA hb
  go_enter Tryz.func85, Tryz.ntmps85
  go_wp2_with fail
  refine (number_comb x S0.rd (fun _ => rfl) (by simp) hx (S0.rdy HR.out) h7).mono ?_
  rintro en w1 ⟨n, e1, ws1, rfl, st1, hw1, R1, t1⟩
  have S1 := S0.turns t1 R1
  have q0 : w1.cell? ⟨w.heap.size + 1 + 1, 1, none⟩ = some (.bool true) := S1.shp.cell 1 (by simp)
  have q1 : w1.cell? ⟨w.heap.size + 1 + 1, 2, none⟩ = some (.bool false) := S1.shp.cell 2 (by simp)
  have q2 : w1.cell? ⟨w.heap.size + 1 + 1, 3, none⟩ = some (.bool false) := S1.shp.cell 3 (by simp)
  have q3 : w1.cell? ⟨w.heap.size + 1 + 1, 4, none⟩ = some (.bool false) := S1.shp.cell 4 (by simp)
  have z1 := S1.shp.lt.2
  have z2 := S1.op.lt.2
  have o0 : w1.cell? ⟨w.heap.size + 1 + 1 + 1, 0, none⟩ = some (.int .i64 2) := S1.op.cell 0 (by simp)
  have of0 := S1.op.frozen 0
  have o1 : w1.cell? ⟨w.heap.size + 1 + 1 + 1, 1, none⟩ = some (.int .i64 0) := S1.op.cell 1 (by simp)
  have of1 := S1.op.frozen 1
  have o2 : w1.cell? ⟨w.heap.size + 1 + 1 + 1, 2, none⟩ = some (.int .i64 0) := S1.op.cell 2 (by simp)
  have of2 := S1.op.frozen 2
  have o3 : w1.cell? ⟨w.heap.size + 1 + 1 + 1, 3, none⟩ = some (.int .i64 0) := S1.op.cell 3 (by simp)
  have of3 := S1.op.frozen 3
  have o4 : w1.cell? ⟨w.heap.size + 1 + 1 + 1, 4, none⟩ = some (.slice none 0 0) := S1.op.cell 4 (by simp)
  have of4 := S1.op.frozen 4
  have S1' := S1.set 1 (.int .i64 n)
  go_wp2_with fail
  clear q0 q1 q2 q3 z1 z2 o0 o1 o2 o3 o4 of0 of1 of2 of3 of4
  have o0 : (w1.setCell ⟨w.heap.size + 1 + 1 + 1, 1, none⟩ (.int .i64 n)).cell? ⟨w.heap.size + 1 + 1 + 1, 0, none⟩ = some (.int .i64 2) := S1'.op.cell 0 (by simp)
  have of0 := S1'.op.frozen 0
  have o1 : (w1.setCell ⟨w.heap.size + 1 + 1 + 1, 1, none⟩ (.int .i64 n)).cell? ⟨w.heap.size + 1 + 1 + 1, 1, none⟩ = some (.int .i64 n) := S1'.op.cell 1 (by simp)
  have of1 := S1'.op.frozen 1
  have o2 : (w1.setCell ⟨w.heap.size + 1 + 1 + 1, 1, none⟩ (.int .i64 n)).cell? ⟨w.heap.size + 1 + 1 + 1, 2, none⟩ = some (.int .i64 0) := S1'.op.cell 2 (by simp)
  have of2 := S1'.op.frozen 2
  have o3 : (w1.setCell ⟨w.heap.size + 1 + 1 + 1, 1, none⟩ (.int .i64 n)).cell? ⟨w.heap.size + 1 + 1 + 1, 3, none⟩ = some (.int .i64 0) := S1'.op.cell 3 (by simp)
  have of3 := S1'.op.frozen 3
  have o4 : (w1.setCell ⟨w.heap.size + 1 + 1 + 1, 1, none⟩ (.int .i64 n)).cell? ⟨w.heap.size + 1 + 1 + 1, 4, none⟩ = some (.slice none 0 0) := S1'.op.cell 4 (by simp)
  have of4 := S1'.op.frozen 4
  have p0 : (w1.setCell ⟨w.heap.size + 1 + 1 + 1, 1, none⟩ (.int .i64 n)).cell? ⟨w.heap.size, 0, none⟩ = some (.int .i64 0) := S1'.ans.cell 0 (by simp)
  have pf0 := S1'.ans.frozen 0
  have p1 : (w1.setCell ⟨w.heap.size + 1 + 1 + 1, 1, none⟩ (.int .i64 n)).cell? ⟨w.heap.size, 1, none⟩ = some (.int .i64 0) := S1'.ans.cell 1 (by simp)
  have pf1 := S1'.ans.frozen 1
  have p2 : (w1.setCell ⟨w.heap.size + 1 + 1 + 1, 1, none⟩ (.int .i64 n)).cell? ⟨w.heap.size, 2, none⟩ = some (.int .i64 0) := S1'.ans.cell 2 (by simp)
  have pf2 := S1'.ans.frozen 2
  have p3 : (w1.setCell ⟨w.heap.size + 1 + 1 + 1, 1, none⟩ (.int .i64 n)).cell? ⟨w.heap.size, 3, none⟩ = some (.int .i64 0) := S1'.ans.cell 3 (by simp)
  have pf3 := S1'.ans.frozen 3
  have p4 : (w1.setCell ⟨w.heap.size + 1 + 1 + 1, 1, none⟩ (.int .i64 n)).cell? ⟨w.heap.size, 4, none⟩ = some (.slice none 0 0) := S1'.ans.cell 4 (by simp)
  have pf4 := S1'.ans.frozen 4
  have z3 := S1'.ans.lt.2
  have z2 := S1'.op.lt.2
  have z4 := S1'.rd.lt.2
  have HF : Hid (Rd w.heap.size (w1.setCell ⟨w.heap.size + 1 + 1 + 1, 1, none⟩ (.int .i64 n)) (w.heap.size + 1) _ e1) := S1'.rd
  obtain ⟨ax, cx, hbx, _⟩ := HF.out
  have ec : (w1.setCell ⟨w.heap.size + 1 + 1 + 1, 1, none⟩ (.int .i64 n)).cell? ⟨w.heap.size + 1, 1, none⟩ = some (.int .i64 e1) := hbx.cell 1 (by simp)
  clear hbx
  have KX := S1'.kept
  generalize hWX : (w1.setCell ⟨w.heap.size + 1 + 1 + 1, 1, none⟩ (.int .i64 n)) = wX at *
  clear hWX
  go_region
  all_goals
    go_wp2_with fail
    (try simp only [Exit.inBlock, Exit.then])
    have tf := turn_set5 wX w.heap.size (.int .i64 2) (.int .i64 n) (.int .i64 0) (.int .i64 0) (.slice none 0 0)
    have tg := tf.drew
    refine bodyPost_ret (v := .tuple #[.agg #[.int .i64 2, .int .i64 n, .int .i64 0, .int .i64 0, .slice none 0 0], .int .i64 e1]) ?_ rfl ⟨n, 0, 0, .slice none 0 0, [], e1, rfl, rda_one (by decide) st1, ?_, ?_⟩
    · rw [results_cell_tmp rfl]
      go_simp
    · exact CRow.nil _ _ _
    · exact tg.kept KX (fun i hi => by omega)
set_option maxHeartbeats 4000000 in
theorem read_k3 (a : Option Addr) (m : Nat) (x : List UInt8) (w : World) (hr : Rdy w) (h7 : 7 ≤ w.heap.size) (hA : At w a ([x] : List (List UInt8)).length ([x])) (hm : ([x] : List (List UInt8)).length ≤ m) (hb : ∀ b f, a = some ⟨b, f, none⟩ → b < w.heap.size) (hx : x.length ≤ 100000) :
    Calls Tryz.prog 85 #[.int .i64 3, .slice a ([x] : List (List UInt8)).length m] w fun en w' => ∃ n v wt sv cs e, en = .returned (.tuple #[.agg #[.int .i64 3, .int .i64 n, .int .i64 v, .int .i64 wt, sv], .int .i64 e]) ∧ RdA 3 ([x]) n v wt cs e ∧ CRow 57 w.heap.size w' sv cs ∧ Kept w w' := by
  obtain ⟨g0, g1, g2, g3, g4, g5, g6⟩ := hr.k3
  have hlt := hr.lt
  have HR : Hid (Rdy w) := hr
  have S0 := rg_start w [.string (B [117, 110, 108, 111, 99, 107]), .bool true, .bool false, .bool false, .bool false, .int .i64 0, .int .i64 7] [.int .i64 3, .int .i64 0, .int .i64 0, .int .i64 0, .slice none 0 0] a m ([x]) (by simp) (by simp) hA hm hb
  clear hr hA hb
  go_enter Tryz.func85, Tryz.ntmps85
  go_wp2_with fail
  refine (number_comb x S0.rd (fun _ => rfl) (by simp) hx (S0.rdy HR.out) h7).mono ?_
  rintro en w1 ⟨n, e1, ws1, rfl, st1, hw1, R1, t1⟩
  have S1 := S0.turns t1 R1
  have q0 : w1.cell? ⟨w.heap.size + 1 + 1, 1, none⟩ = some (.bool true) := S1.shp.cell 1 (by simp)
  have q1 : w1.cell? ⟨w.heap.size + 1 + 1, 2, none⟩ = some (.bool false) := S1.shp.cell 2 (by simp)
  have q2 : w1.cell? ⟨w.heap.size + 1 + 1, 3, none⟩ = some (.bool false) := S1.shp.cell 3 (by simp)
  have q3 : w1.cell? ⟨w.heap.size + 1 + 1, 4, none⟩ = some (.bool false) := S1.shp.cell 4 (by simp)
  have z1 := S1.shp.lt.2
  have z2 := S1.op.lt.2
  have o0 : w1.cell? ⟨w.heap.size + 1 + 1 + 1, 0, none⟩ = some (.int .i64 3) := S1.op.cell 0 (by simp)
  have of0 := S1.op.frozen 0
  have o1 : w1.cell? ⟨w.heap.size + 1 + 1 + 1, 1, none⟩ = some (.int .i64 0) := S1.op.cell 1 (by simp)
  have of1 := S1.op.frozen 1
  have o2 : w1.cell? ⟨w.heap.size + 1 + 1 + 1, 2, none⟩ = some (.int .i64 0) := S1.op.cell 2 (by simp)
  have of2 := S1.op.frozen 2
  have o3 : w1.cell? ⟨w.heap.size + 1 + 1 + 1, 3, none⟩ = some (.int .i64 0) := S1.op.cell 3 (by simp)
  have of3 := S1.op.frozen 3
  have o4 : w1.cell? ⟨w.heap.size + 1 + 1 + 1, 4, none⟩ = some (.slice none 0 0) := S1.op.cell 4 (by simp)
  have of4 := S1.op.frozen 4
  have S1' := S1.set 1 (.int .i64 n)
  go_wp2_with fail
  clear q0 q1 q2 q3 z1 z2 o0 o1 o2 o3 o4 of0 of1 of2 of3 of4
  have o0 : (w1.setCell ⟨w.heap.size + 1 + 1 + 1, 1, none⟩ (.int .i64 n)).cell? ⟨w.heap.size + 1 + 1 + 1, 0, none⟩ = some (.int .i64 3) := S1'.op.cell 0 (by simp)
  have of0 := S1'.op.frozen 0
  have o1 : (w1.setCell ⟨w.heap.size + 1 + 1 + 1, 1, none⟩ (.int .i64 n)).cell? ⟨w.heap.size + 1 + 1 + 1, 1, none⟩ = some (.int .i64 n) := S1'.op.cell 1 (by simp)
  have of1 := S1'.op.frozen 1
  have o2 : (w1.setCell ⟨w.heap.size + 1 + 1 + 1, 1, none⟩ (.int .i64 n)).cell? ⟨w.heap.size + 1 + 1 + 1, 2, none⟩ = some (.int .i64 0) := S1'.op.cell 2 (by simp)
  have of2 := S1'.op.frozen 2
  have o3 : (w1.setCell ⟨w.heap.size + 1 + 1 + 1, 1, none⟩ (.int .i64 n)).cell? ⟨w.heap.size + 1 + 1 + 1, 3, none⟩ = some (.int .i64 0) := S1'.op.cell 3 (by simp)
  have of3 := S1'.op.frozen 3
  have o4 : (w1.setCell ⟨w.heap.size + 1 + 1 + 1, 1, none⟩ (.int .i64 n)).cell? ⟨w.heap.size + 1 + 1 + 1, 4, none⟩ = some (.slice none 0 0) := S1'.op.cell 4 (by simp)
  have of4 := S1'.op.frozen 4
  have p0 : (w1.setCell ⟨w.heap.size + 1 + 1 + 1, 1, none⟩ (.int .i64 n)).cell? ⟨w.heap.size, 0, none⟩ = some (.int .i64 0) := S1'.ans.cell 0 (by simp)
  have pf0 := S1'.ans.frozen 0
  have p1 : (w1.setCell ⟨w.heap.size + 1 + 1 + 1, 1, none⟩ (.int .i64 n)).cell? ⟨w.heap.size, 1, none⟩ = some (.int .i64 0) := S1'.ans.cell 1 (by simp)
  have pf1 := S1'.ans.frozen 1
  have p2 : (w1.setCell ⟨w.heap.size + 1 + 1 + 1, 1, none⟩ (.int .i64 n)).cell? ⟨w.heap.size, 2, none⟩ = some (.int .i64 0) := S1'.ans.cell 2 (by simp)
  have pf2 := S1'.ans.frozen 2
  have p3 : (w1.setCell ⟨w.heap.size + 1 + 1 + 1, 1, none⟩ (.int .i64 n)).cell? ⟨w.heap.size, 3, none⟩ = some (.int .i64 0) := S1'.ans.cell 3 (by simp)
  have pf3 := S1'.ans.frozen 3
  have p4 : (w1.setCell ⟨w.heap.size + 1 + 1 + 1, 1, none⟩ (.int .i64 n)).cell? ⟨w.heap.size, 4, none⟩ = some (.slice none 0 0) := S1'.ans.cell 4 (by simp)
  have pf4 := S1'.ans.frozen 4
  have z3 := S1'.ans.lt.2
  have z2 := S1'.op.lt.2
  have z4 := S1'.rd.lt.2
  have HF : Hid (Rd w.heap.size (w1.setCell ⟨w.heap.size + 1 + 1 + 1, 1, none⟩ (.int .i64 n)) (w.heap.size + 1) _ e1) := S1'.rd
  obtain ⟨ax, cx, hbx, _⟩ := HF.out
  have ec : (w1.setCell ⟨w.heap.size + 1 + 1 + 1, 1, none⟩ (.int .i64 n)).cell? ⟨w.heap.size + 1, 1, none⟩ = some (.int .i64 e1) := hbx.cell 1 (by simp)
  clear hbx
  have KX := S1'.kept
  generalize hWX : (w1.setCell ⟨w.heap.size + 1 + 1 + 1, 1, none⟩ (.int .i64 n)) = wX at *
  clear hWX
  go_region
  all_goals
    go_wp2_with fail
    (try simp only [Exit.inBlock, Exit.then])
    have tf := turn_set5 wX w.heap.size (.int .i64 3) (.int .i64 n) (.int .i64 0) (.int .i64 0) (.slice none 0 0)
    have tg := tf.drew
    refine bodyPost_ret (v := .tuple #[.agg #[.int .i64 3, .int .i64 n, .int .i64 0, .int .i64 0, .slice none 0 0], .int .i64 e1]) ?_ rfl ⟨n, 0, 0, .slice none 0 0, [], e1, rfl, rda_one (by decide) st1, ?_, ?_⟩
    · rw [results_cell_tmp rfl]
      go_simp
    · exact CRow.nil _ _ _
    · exact tg.kept KX (fun i hi => by omega)
set_option maxHeartbeats 4000000 in
theorem read_k4 (a : Option Addr) (m : Nat) (x y z : List UInt8) (w : World) (hr : Rdy w) (h7 : 7 ≤ w.heap.size) (hA : At w a ([x, y, z] : List (List UInt8)).length ([x, y, z])) (hm : ([x, y, z] : List (List UInt8)).length ≤ m) (hb : ∀ b f, a = some ⟨b, f, none⟩ → b < w.heap.size) (hx : x.length ≤ 100000) (hy : y.length ≤ 100000) (hz : z.length ≤ 100000) :
    Calls Tryz.prog 85 #[.int .i64 4, .slice a ([x, y, z] : List (List UInt8)).length m] w fun en w' => ∃ n v wt sv cs e, en = .returned (.tuple #[.agg #[.int .i64 4, .int .i64 n, .int .i64 v, .int .i64 wt, sv], .int .i64 e]) ∧ RdA 4 ([x, y, z]) n v wt cs e ∧ CRow 57 w.heap.size w' sv cs ∧ Kept w w' := by
  obtain ⟨g0, g1, g2, g3, g4, g5, g6⟩ := hr.k4
  have hlt := hr.lt
  have HR : Hid (Rdy w) := hr
  have S0 := rg_start w [.string (B [115, 101, 110, 100]), .bool true, .bool true, .bool true, .bool false, .int .i64 0, .int .i64 7] [.int .i64 4, .int .i64 0, .int .i64 0, .int .i64 0, .slice none 0 0] a m ([x, y, z]) (by simp) (by simp) hA hm hb
  clear hr hA hb
  go_enter Tryz.func85, Tryz.ntmps85
  go_wp2_with fail
  refine (number_comb x S0.rd (fun _ => rfl) (by simp) hx (S0.rdy HR.out) h7).mono ?_
  rintro en w1 ⟨n, e1, ws1, rfl, st1, hw1, R1, t1⟩
  have S1 := S0.turns t1 R1
  have q0 : w1.cell? ⟨w.heap.size + 1 + 1, 1, none⟩ = some (.bool true) := S1.shp.cell 1 (by simp)
  have q1 : w1.cell? ⟨w.heap.size + 1 + 1, 2, none⟩ = some (.bool true) := S1.shp.cell 2 (by simp)
  have q2 : w1.cell? ⟨w.heap.size + 1 + 1, 3, none⟩ = some (.bool true) := S1.shp.cell 3 (by simp)
  have q3 : w1.cell? ⟨w.heap.size + 1 + 1, 4, none⟩ = some (.bool false) := S1.shp.cell 4 (by simp)
  have z1 := S1.shp.lt.2
  have z2 := S1.op.lt.2
  have o0 : w1.cell? ⟨w.heap.size + 1 + 1 + 1, 0, none⟩ = some (.int .i64 4) := S1.op.cell 0 (by simp)
  have of0 := S1.op.frozen 0
  have o1 : w1.cell? ⟨w.heap.size + 1 + 1 + 1, 1, none⟩ = some (.int .i64 0) := S1.op.cell 1 (by simp)
  have of1 := S1.op.frozen 1
  have o2 : w1.cell? ⟨w.heap.size + 1 + 1 + 1, 2, none⟩ = some (.int .i64 0) := S1.op.cell 2 (by simp)
  have of2 := S1.op.frozen 2
  have o3 : w1.cell? ⟨w.heap.size + 1 + 1 + 1, 3, none⟩ = some (.int .i64 0) := S1.op.cell 3 (by simp)
  have of3 := S1.op.frozen 3
  have o4 : w1.cell? ⟨w.heap.size + 1 + 1 + 1, 4, none⟩ = some (.slice none 0 0) := S1.op.cell 4 (by simp)
  have of4 := S1.op.frozen 4
  have S1' := S1.set 1 (.int .i64 n)
  go_wp2_with fail
  refine (number_comb y S1'.rd hw1 (by simp) hy (S1'.rdy HR.out) h7).mono ?_
  rintro en w2 ⟨v, e2, ws2, rfl, st2, hw2, R2, t2⟩
  have S2 := S1'.turns t2 R2
  clear q0 q1 q2 q3 z1 z2 o0 o1 o2 o3 o4 of0 of1 of2 of3 of4
  have q0 : w2.cell? ⟨w.heap.size + 1 + 1, 1, none⟩ = some (.bool true) := S2.shp.cell 1 (by simp)
  have q1 : w2.cell? ⟨w.heap.size + 1 + 1, 2, none⟩ = some (.bool true) := S2.shp.cell 2 (by simp)
  have q2 : w2.cell? ⟨w.heap.size + 1 + 1, 3, none⟩ = some (.bool true) := S2.shp.cell 3 (by simp)
  have q3 : w2.cell? ⟨w.heap.size + 1 + 1, 4, none⟩ = some (.bool false) := S2.shp.cell 4 (by simp)
  have z1 := S2.shp.lt.2
  have z2 := S2.op.lt.2
  have o0 : w2.cell? ⟨w.heap.size + 1 + 1 + 1, 0, none⟩ = some (.int .i64 4) := S2.op.cell 0 (by simp)
  have of0 := S2.op.frozen 0
  have o1 : w2.cell? ⟨w.heap.size + 1 + 1 + 1, 1, none⟩ = some (.int .i64 n) := S2.op.cell 1 (by simp)
  have of1 := S2.op.frozen 1
  have o2 : w2.cell? ⟨w.heap.size + 1 + 1 + 1, 2, none⟩ = some (.int .i64 0) := S2.op.cell 2 (by simp)
  have of2 := S2.op.frozen 2
  have o3 : w2.cell? ⟨w.heap.size + 1 + 1 + 1, 3, none⟩ = some (.int .i64 0) := S2.op.cell 3 (by simp)
  have of3 := S2.op.frozen 3
  have o4 : w2.cell? ⟨w.heap.size + 1 + 1 + 1, 4, none⟩ = some (.slice none 0 0) := S2.op.cell 4 (by simp)
  have of4 := S2.op.frozen 4
  have S2' := S2.set 2 (.int .i64 v)
  go_wp2_with fail
  refine (wait_comb z S2'.rd hw2 (by simp) hz (S2'.rdy HR.out) h7).mono ?_
  rintro en w3 ⟨wt, e3, ws3, rfl, st3, hw3, R3, t3⟩
  have S3 := S2'.turns t3 R3
  clear q0 q1 q2 q3 z1 z2 o0 o1 o2 o3 o4 of0 of1 of2 of3 of4
  have q0 : w3.cell? ⟨w.heap.size + 1 + 1, 1, none⟩ = some (.bool true) := S3.shp.cell 1 (by simp)
  have q1 : w3.cell? ⟨w.heap.size + 1 + 1, 2, none⟩ = some (.bool true) := S3.shp.cell 2 (by simp)
  have q2 : w3.cell? ⟨w.heap.size + 1 + 1, 3, none⟩ = some (.bool true) := S3.shp.cell 3 (by simp)
  have q3 : w3.cell? ⟨w.heap.size + 1 + 1, 4, none⟩ = some (.bool false) := S3.shp.cell 4 (by simp)
  have z1 := S3.shp.lt.2
  have z2 := S3.op.lt.2
  have o0 : w3.cell? ⟨w.heap.size + 1 + 1 + 1, 0, none⟩ = some (.int .i64 4) := S3.op.cell 0 (by simp)
  have of0 := S3.op.frozen 0
  have o1 : w3.cell? ⟨w.heap.size + 1 + 1 + 1, 1, none⟩ = some (.int .i64 n) := S3.op.cell 1 (by simp)
  have of1 := S3.op.frozen 1
  have o2 : w3.cell? ⟨w.heap.size + 1 + 1 + 1, 2, none⟩ = some (.int .i64 v) := S3.op.cell 2 (by simp)
  have of2 := S3.op.frozen 2
  have o3 : w3.cell? ⟨w.heap.size + 1 + 1 + 1, 3, none⟩ = some (.int .i64 0) := S3.op.cell 3 (by simp)
  have of3 := S3.op.frozen 3
  have o4 : w3.cell? ⟨w.heap.size + 1 + 1 + 1, 4, none⟩ = some (.slice none 0 0) := S3.op.cell 4 (by simp)
  have of4 := S3.op.frozen 4
  have S3' := S3.set 3 (.int .i64 wt)
  go_wp2_with fail
  clear q0 q1 q2 q3 z1 z2 o0 o1 o2 o3 o4 of0 of1 of2 of3 of4
  have o0 : (w3.setCell ⟨w.heap.size + 1 + 1 + 1, 3, none⟩ (.int .i64 wt)).cell? ⟨w.heap.size + 1 + 1 + 1, 0, none⟩ = some (.int .i64 4) := S3'.op.cell 0 (by simp)
  have of0 := S3'.op.frozen 0
  have o1 : (w3.setCell ⟨w.heap.size + 1 + 1 + 1, 3, none⟩ (.int .i64 wt)).cell? ⟨w.heap.size + 1 + 1 + 1, 1, none⟩ = some (.int .i64 n) := S3'.op.cell 1 (by simp)
  have of1 := S3'.op.frozen 1
  have o2 : (w3.setCell ⟨w.heap.size + 1 + 1 + 1, 3, none⟩ (.int .i64 wt)).cell? ⟨w.heap.size + 1 + 1 + 1, 2, none⟩ = some (.int .i64 v) := S3'.op.cell 2 (by simp)
  have of2 := S3'.op.frozen 2
  have o3 : (w3.setCell ⟨w.heap.size + 1 + 1 + 1, 3, none⟩ (.int .i64 wt)).cell? ⟨w.heap.size + 1 + 1 + 1, 3, none⟩ = some (.int .i64 wt) := S3'.op.cell 3 (by simp)
  have of3 := S3'.op.frozen 3
  have o4 : (w3.setCell ⟨w.heap.size + 1 + 1 + 1, 3, none⟩ (.int .i64 wt)).cell? ⟨w.heap.size + 1 + 1 + 1, 4, none⟩ = some (.slice none 0 0) := S3'.op.cell 4 (by simp)
  have of4 := S3'.op.frozen 4
  have p0 : (w3.setCell ⟨w.heap.size + 1 + 1 + 1, 3, none⟩ (.int .i64 wt)).cell? ⟨w.heap.size, 0, none⟩ = some (.int .i64 0) := S3'.ans.cell 0 (by simp)
  have pf0 := S3'.ans.frozen 0
  have p1 : (w3.setCell ⟨w.heap.size + 1 + 1 + 1, 3, none⟩ (.int .i64 wt)).cell? ⟨w.heap.size, 1, none⟩ = some (.int .i64 0) := S3'.ans.cell 1 (by simp)
  have pf1 := S3'.ans.frozen 1
  have p2 : (w3.setCell ⟨w.heap.size + 1 + 1 + 1, 3, none⟩ (.int .i64 wt)).cell? ⟨w.heap.size, 2, none⟩ = some (.int .i64 0) := S3'.ans.cell 2 (by simp)
  have pf2 := S3'.ans.frozen 2
  have p3 : (w3.setCell ⟨w.heap.size + 1 + 1 + 1, 3, none⟩ (.int .i64 wt)).cell? ⟨w.heap.size, 3, none⟩ = some (.int .i64 0) := S3'.ans.cell 3 (by simp)
  have pf3 := S3'.ans.frozen 3
  have p4 : (w3.setCell ⟨w.heap.size + 1 + 1 + 1, 3, none⟩ (.int .i64 wt)).cell? ⟨w.heap.size, 4, none⟩ = some (.slice none 0 0) := S3'.ans.cell 4 (by simp)
  have pf4 := S3'.ans.frozen 4
  have z3 := S3'.ans.lt.2
  have z2 := S3'.op.lt.2
  have z4 := S3'.rd.lt.2
  have HF : Hid (Rd w.heap.size (w3.setCell ⟨w.heap.size + 1 + 1 + 1, 3, none⟩ (.int .i64 wt)) (w.heap.size + 1) _ e3) := S3'.rd
  obtain ⟨ax, cx, hbx, _⟩ := HF.out
  have ec : (w3.setCell ⟨w.heap.size + 1 + 1 + 1, 3, none⟩ (.int .i64 wt)).cell? ⟨w.heap.size + 1, 1, none⟩ = some (.int .i64 e3) := hbx.cell 1 (by simp)
  clear hbx
  have KX := S3'.kept
  generalize hWX : (w3.setCell ⟨w.heap.size + 1 + 1 + 1, 3, none⟩ (.int .i64 wt)) = wX at *
  clear hWX
  go_region
  all_goals
    go_wp2_with fail
    (try simp only [Exit.inBlock, Exit.then])
    have tf := turn_set5 wX w.heap.size (.int .i64 4) (.int .i64 n) (.int .i64 v) (.int .i64 wt) (.slice none 0 0)
    have tg := tf.drew
    refine bodyPost_ret (v := .tuple #[.agg #[.int .i64 4, .int .i64 n, .int .i64 v, .int .i64 wt, .slice none 0 0], .int .i64 e3]) ?_ rfl ⟨n, v, wt, .slice none 0 0, [], e3, rfl, rda_send st1 st2 st3, ?_, ?_⟩
    · rw [results_cell_tmp rfl]
      go_simp
    · exact CRow.nil _ _ _
    · exact tg.kept KX (fun i hi => by omega)
set_option maxHeartbeats 4000000 in
theorem read_k5 (a : Option Addr) (m : Nat) (x z : List UInt8) (w : World) (hr : Rdy w) (h7 : 7 ≤ w.heap.size) (hA : At w a ([x, z] : List (List UInt8)).length ([x, z])) (hm : ([x, z] : List (List UInt8)).length ≤ m) (hb : ∀ b f, a = some ⟨b, f, none⟩ → b < w.heap.size) (hx : x.length ≤ 100000) (hz : z.length ≤ 100000) :
    Calls Tryz.prog 85 #[.int .i64 5, .slice a ([x, z] : List (List UInt8)).length m] w fun en w' => ∃ n v wt sv cs e, en = .returned (.tuple #[.agg #[.int .i64 5, .int .i64 n, .int .i64 v, .int .i64 wt, sv], .int .i64 e]) ∧ RdA 5 ([x, z]) n v wt cs e ∧ CRow 57 w.heap.size w' sv cs ∧ Kept w w' := by
  obtain ⟨g0, g1, g2, g3, g4, g5, g6⟩ := hr.k5
  have hlt := hr.lt
  have HR : Hid (Rdy w) := hr
  have S0 := rg_start w [.string (B [114, 101, 99, 118]), .bool true, .bool false, .bool true, .bool false, .int .i64 0, .int .i64 7] [.int .i64 5, .int .i64 0, .int .i64 0, .int .i64 0, .slice none 0 0] a m ([x, z]) (by simp) (by simp) hA hm hb
  clear hr hA hb
  go_enter Tryz.func85, Tryz.ntmps85
  go_wp2_with fail
  refine (number_comb x S0.rd (fun _ => rfl) (by simp) hx (S0.rdy HR.out) h7).mono ?_
  rintro en w1 ⟨n, e1, ws1, rfl, st1, hw1, R1, t1⟩
  have S1 := S0.turns t1 R1
  have q0 : w1.cell? ⟨w.heap.size + 1 + 1, 1, none⟩ = some (.bool true) := S1.shp.cell 1 (by simp)
  have q1 : w1.cell? ⟨w.heap.size + 1 + 1, 2, none⟩ = some (.bool false) := S1.shp.cell 2 (by simp)
  have q2 : w1.cell? ⟨w.heap.size + 1 + 1, 3, none⟩ = some (.bool true) := S1.shp.cell 3 (by simp)
  have q3 : w1.cell? ⟨w.heap.size + 1 + 1, 4, none⟩ = some (.bool false) := S1.shp.cell 4 (by simp)
  have z1 := S1.shp.lt.2
  have z2 := S1.op.lt.2
  have o0 : w1.cell? ⟨w.heap.size + 1 + 1 + 1, 0, none⟩ = some (.int .i64 5) := S1.op.cell 0 (by simp)
  have of0 := S1.op.frozen 0
  have o1 : w1.cell? ⟨w.heap.size + 1 + 1 + 1, 1, none⟩ = some (.int .i64 0) := S1.op.cell 1 (by simp)
  have of1 := S1.op.frozen 1
  have o2 : w1.cell? ⟨w.heap.size + 1 + 1 + 1, 2, none⟩ = some (.int .i64 0) := S1.op.cell 2 (by simp)
  have of2 := S1.op.frozen 2
  have o3 : w1.cell? ⟨w.heap.size + 1 + 1 + 1, 3, none⟩ = some (.int .i64 0) := S1.op.cell 3 (by simp)
  have of3 := S1.op.frozen 3
  have o4 : w1.cell? ⟨w.heap.size + 1 + 1 + 1, 4, none⟩ = some (.slice none 0 0) := S1.op.cell 4 (by simp)
  have of4 := S1.op.frozen 4
  have S1' := S1.set 1 (.int .i64 n)
  go_wp2_with fail
  refine (wait_comb z S1'.rd hw1 (by simp) hz (S1'.rdy HR.out) h7).mono ?_
  rintro en w2 ⟨wt, e2, ws2, rfl, st2, hw2, R2, t2⟩
  have S2 := S1'.turns t2 R2
  clear q0 q1 q2 q3 z1 z2 o0 o1 o2 o3 o4 of0 of1 of2 of3 of4
  have q0 : w2.cell? ⟨w.heap.size + 1 + 1, 1, none⟩ = some (.bool true) := S2.shp.cell 1 (by simp)
  have q1 : w2.cell? ⟨w.heap.size + 1 + 1, 2, none⟩ = some (.bool false) := S2.shp.cell 2 (by simp)
  have q2 : w2.cell? ⟨w.heap.size + 1 + 1, 3, none⟩ = some (.bool true) := S2.shp.cell 3 (by simp)
  have q3 : w2.cell? ⟨w.heap.size + 1 + 1, 4, none⟩ = some (.bool false) := S2.shp.cell 4 (by simp)
  have z1 := S2.shp.lt.2
  have z2 := S2.op.lt.2
  have o0 : w2.cell? ⟨w.heap.size + 1 + 1 + 1, 0, none⟩ = some (.int .i64 5) := S2.op.cell 0 (by simp)
  have of0 := S2.op.frozen 0
  have o1 : w2.cell? ⟨w.heap.size + 1 + 1 + 1, 1, none⟩ = some (.int .i64 n) := S2.op.cell 1 (by simp)
  have of1 := S2.op.frozen 1
  have o2 : w2.cell? ⟨w.heap.size + 1 + 1 + 1, 2, none⟩ = some (.int .i64 0) := S2.op.cell 2 (by simp)
  have of2 := S2.op.frozen 2
  have o3 : w2.cell? ⟨w.heap.size + 1 + 1 + 1, 3, none⟩ = some (.int .i64 0) := S2.op.cell 3 (by simp)
  have of3 := S2.op.frozen 3
  have o4 : w2.cell? ⟨w.heap.size + 1 + 1 + 1, 4, none⟩ = some (.slice none 0 0) := S2.op.cell 4 (by simp)
  have of4 := S2.op.frozen 4
  have S2' := S2.set 3 (.int .i64 wt)
  go_wp2_with fail
  clear q0 q1 q2 q3 z1 z2 o0 o1 o2 o3 o4 of0 of1 of2 of3 of4
  have o0 : (w2.setCell ⟨w.heap.size + 1 + 1 + 1, 3, none⟩ (.int .i64 wt)).cell? ⟨w.heap.size + 1 + 1 + 1, 0, none⟩ = some (.int .i64 5) := S2'.op.cell 0 (by simp)
  have of0 := S2'.op.frozen 0
  have o1 : (w2.setCell ⟨w.heap.size + 1 + 1 + 1, 3, none⟩ (.int .i64 wt)).cell? ⟨w.heap.size + 1 + 1 + 1, 1, none⟩ = some (.int .i64 n) := S2'.op.cell 1 (by simp)
  have of1 := S2'.op.frozen 1
  have o2 : (w2.setCell ⟨w.heap.size + 1 + 1 + 1, 3, none⟩ (.int .i64 wt)).cell? ⟨w.heap.size + 1 + 1 + 1, 2, none⟩ = some (.int .i64 0) := S2'.op.cell 2 (by simp)
  have of2 := S2'.op.frozen 2
  have o3 : (w2.setCell ⟨w.heap.size + 1 + 1 + 1, 3, none⟩ (.int .i64 wt)).cell? ⟨w.heap.size + 1 + 1 + 1, 3, none⟩ = some (.int .i64 wt) := S2'.op.cell 3 (by simp)
  have of3 := S2'.op.frozen 3
  have o4 : (w2.setCell ⟨w.heap.size + 1 + 1 + 1, 3, none⟩ (.int .i64 wt)).cell? ⟨w.heap.size + 1 + 1 + 1, 4, none⟩ = some (.slice none 0 0) := S2'.op.cell 4 (by simp)
  have of4 := S2'.op.frozen 4
  have p0 : (w2.setCell ⟨w.heap.size + 1 + 1 + 1, 3, none⟩ (.int .i64 wt)).cell? ⟨w.heap.size, 0, none⟩ = some (.int .i64 0) := S2'.ans.cell 0 (by simp)
  have pf0 := S2'.ans.frozen 0
  have p1 : (w2.setCell ⟨w.heap.size + 1 + 1 + 1, 3, none⟩ (.int .i64 wt)).cell? ⟨w.heap.size, 1, none⟩ = some (.int .i64 0) := S2'.ans.cell 1 (by simp)
  have pf1 := S2'.ans.frozen 1
  have p2 : (w2.setCell ⟨w.heap.size + 1 + 1 + 1, 3, none⟩ (.int .i64 wt)).cell? ⟨w.heap.size, 2, none⟩ = some (.int .i64 0) := S2'.ans.cell 2 (by simp)
  have pf2 := S2'.ans.frozen 2
  have p3 : (w2.setCell ⟨w.heap.size + 1 + 1 + 1, 3, none⟩ (.int .i64 wt)).cell? ⟨w.heap.size, 3, none⟩ = some (.int .i64 0) := S2'.ans.cell 3 (by simp)
  have pf3 := S2'.ans.frozen 3
  have p4 : (w2.setCell ⟨w.heap.size + 1 + 1 + 1, 3, none⟩ (.int .i64 wt)).cell? ⟨w.heap.size, 4, none⟩ = some (.slice none 0 0) := S2'.ans.cell 4 (by simp)
  have pf4 := S2'.ans.frozen 4
  have z3 := S2'.ans.lt.2
  have z2 := S2'.op.lt.2
  have z4 := S2'.rd.lt.2
  have HF : Hid (Rd w.heap.size (w2.setCell ⟨w.heap.size + 1 + 1 + 1, 3, none⟩ (.int .i64 wt)) (w.heap.size + 1) _ e2) := S2'.rd
  obtain ⟨ax, cx, hbx, _⟩ := HF.out
  have ec : (w2.setCell ⟨w.heap.size + 1 + 1 + 1, 3, none⟩ (.int .i64 wt)).cell? ⟨w.heap.size + 1, 1, none⟩ = some (.int .i64 e2) := hbx.cell 1 (by simp)
  clear hbx
  have KX := S2'.kept
  generalize hWX : (w2.setCell ⟨w.heap.size + 1 + 1 + 1, 3, none⟩ (.int .i64 wt)) = wX at *
  clear hWX
  go_region
  all_goals
    go_wp2_with fail
    (try simp only [Exit.inBlock, Exit.then])
    have tf := turn_set5 wX w.heap.size (.int .i64 5) (.int .i64 n) (.int .i64 0) (.int .i64 wt) (.slice none 0 0)
    have tg := tf.drew
    refine bodyPost_ret (v := .tuple #[.agg #[.int .i64 5, .int .i64 n, .int .i64 0, .int .i64 wt, .slice none 0 0], .int .i64 e2]) ?_ rfl ⟨n, 0, wt, .slice none 0 0, [], e2, rfl, rda_recv st1 st2, ?_, ?_⟩
    · rw [results_cell_tmp rfl]
      go_simp
    · exact CRow.nil _ _ _
    · exact tg.kept KX (fun i hi => by omega)
set_option maxHeartbeats 4000000 in
theorem read_k6 (a : Option Addr) (m : Nat) (x : List UInt8) (w : World) (hr : Rdy w) (h7 : 7 ≤ w.heap.size) (hA : At w a ([x] : List (List UInt8)).length ([x])) (hm : ([x] : List (List UInt8)).length ≤ m) (hb : ∀ b f, a = some ⟨b, f, none⟩ → b < w.heap.size) (hx : x.length ≤ 100000) :
    Calls Tryz.prog 85 #[.int .i64 6, .slice a ([x] : List (List UInt8)).length m] w fun en w' => ∃ n v wt sv cs e, en = .returned (.tuple #[.agg #[.int .i64 6, .int .i64 n, .int .i64 v, .int .i64 wt, sv], .int .i64 e]) ∧ RdA 6 ([x]) n v wt cs e ∧ CRow 57 w.heap.size w' sv cs ∧ Kept w w' := by
  obtain ⟨g0, g1, g2, g3, g4, g5, g6⟩ := hr.k6
  have hlt := hr.lt
  have HR : Hid (Rdy w) := hr
  have S0 := rg_start w [.string (B [99, 108, 111, 115, 101]), .bool true, .bool false, .bool false, .bool false, .int .i64 0, .int .i64 7] [.int .i64 6, .int .i64 0, .int .i64 0, .int .i64 0, .slice none 0 0] a m ([x]) (by simp) (by simp) hA hm hb
  clear hr hA hb
  go_enter Tryz.func85, Tryz.ntmps85
  go_wp2_with fail
  refine (number_comb x S0.rd (fun _ => rfl) (by simp) hx (S0.rdy HR.out) h7).mono ?_
  rintro en w1 ⟨n, e1, ws1, rfl, st1, hw1, R1, t1⟩
  have S1 := S0.turns t1 R1
  have q0 : w1.cell? ⟨w.heap.size + 1 + 1, 1, none⟩ = some (.bool true) := S1.shp.cell 1 (by simp)
  have q1 : w1.cell? ⟨w.heap.size + 1 + 1, 2, none⟩ = some (.bool false) := S1.shp.cell 2 (by simp)
  have q2 : w1.cell? ⟨w.heap.size + 1 + 1, 3, none⟩ = some (.bool false) := S1.shp.cell 3 (by simp)
  have q3 : w1.cell? ⟨w.heap.size + 1 + 1, 4, none⟩ = some (.bool false) := S1.shp.cell 4 (by simp)
  have z1 := S1.shp.lt.2
  have z2 := S1.op.lt.2
  have o0 : w1.cell? ⟨w.heap.size + 1 + 1 + 1, 0, none⟩ = some (.int .i64 6) := S1.op.cell 0 (by simp)
  have of0 := S1.op.frozen 0
  have o1 : w1.cell? ⟨w.heap.size + 1 + 1 + 1, 1, none⟩ = some (.int .i64 0) := S1.op.cell 1 (by simp)
  have of1 := S1.op.frozen 1
  have o2 : w1.cell? ⟨w.heap.size + 1 + 1 + 1, 2, none⟩ = some (.int .i64 0) := S1.op.cell 2 (by simp)
  have of2 := S1.op.frozen 2
  have o3 : w1.cell? ⟨w.heap.size + 1 + 1 + 1, 3, none⟩ = some (.int .i64 0) := S1.op.cell 3 (by simp)
  have of3 := S1.op.frozen 3
  have o4 : w1.cell? ⟨w.heap.size + 1 + 1 + 1, 4, none⟩ = some (.slice none 0 0) := S1.op.cell 4 (by simp)
  have of4 := S1.op.frozen 4
  have S1' := S1.set 1 (.int .i64 n)
  go_wp2_with fail
  clear q0 q1 q2 q3 z1 z2 o0 o1 o2 o3 o4 of0 of1 of2 of3 of4
  have o0 : (w1.setCell ⟨w.heap.size + 1 + 1 + 1, 1, none⟩ (.int .i64 n)).cell? ⟨w.heap.size + 1 + 1 + 1, 0, none⟩ = some (.int .i64 6) := S1'.op.cell 0 (by simp)
  have of0 := S1'.op.frozen 0
  have o1 : (w1.setCell ⟨w.heap.size + 1 + 1 + 1, 1, none⟩ (.int .i64 n)).cell? ⟨w.heap.size + 1 + 1 + 1, 1, none⟩ = some (.int .i64 n) := S1'.op.cell 1 (by simp)
  have of1 := S1'.op.frozen 1
  have o2 : (w1.setCell ⟨w.heap.size + 1 + 1 + 1, 1, none⟩ (.int .i64 n)).cell? ⟨w.heap.size + 1 + 1 + 1, 2, none⟩ = some (.int .i64 0) := S1'.op.cell 2 (by simp)
  have of2 := S1'.op.frozen 2
  have o3 : (w1.setCell ⟨w.heap.size + 1 + 1 + 1, 1, none⟩ (.int .i64 n)).cell? ⟨w.heap.size + 1 + 1 + 1, 3, none⟩ = some (.int .i64 0) := S1'.op.cell 3 (by simp)
  have of3 := S1'.op.frozen 3
  have o4 : (w1.setCell ⟨w.heap.size + 1 + 1 + 1, 1, none⟩ (.int .i64 n)).cell? ⟨w.heap.size + 1 + 1 + 1, 4, none⟩ = some (.slice none 0 0) := S1'.op.cell 4 (by simp)
  have of4 := S1'.op.frozen 4
  have p0 : (w1.setCell ⟨w.heap.size + 1 + 1 + 1, 1, none⟩ (.int .i64 n)).cell? ⟨w.heap.size, 0, none⟩ = some (.int .i64 0) := S1'.ans.cell 0 (by simp)
  have pf0 := S1'.ans.frozen 0
  have p1 : (w1.setCell ⟨w.heap.size + 1 + 1 + 1, 1, none⟩ (.int .i64 n)).cell? ⟨w.heap.size, 1, none⟩ = some (.int .i64 0) := S1'.ans.cell 1 (by simp)
  have pf1 := S1'.ans.frozen 1
  have p2 : (w1.setCell ⟨w.heap.size + 1 + 1 + 1, 1, none⟩ (.int .i64 n)).cell? ⟨w.heap.size, 2, none⟩ = some (.int .i64 0) := S1'.ans.cell 2 (by simp)
  have pf2 := S1'.ans.frozen 2
  have p3 : (w1.setCell ⟨w.heap.size + 1 + 1 + 1, 1, none⟩ (.int .i64 n)).cell? ⟨w.heap.size, 3, none⟩ = some (.int .i64 0) := S1'.ans.cell 3 (by simp)
  have pf3 := S1'.ans.frozen 3
  have p4 : (w1.setCell ⟨w.heap.size + 1 + 1 + 1, 1, none⟩ (.int .i64 n)).cell? ⟨w.heap.size, 4, none⟩ = some (.slice none 0 0) := S1'.ans.cell 4 (by simp)
  have pf4 := S1'.ans.frozen 4
  have z3 := S1'.ans.lt.2
  have z2 := S1'.op.lt.2
  have z4 := S1'.rd.lt.2
  have HF : Hid (Rd w.heap.size (w1.setCell ⟨w.heap.size + 1 + 1 + 1, 1, none⟩ (.int .i64 n)) (w.heap.size + 1) _ e1) := S1'.rd
  obtain ⟨ax, cx, hbx, _⟩ := HF.out
  have ec : (w1.setCell ⟨w.heap.size + 1 + 1 + 1, 1, none⟩ (.int .i64 n)).cell? ⟨w.heap.size + 1, 1, none⟩ = some (.int .i64 e1) := hbx.cell 1 (by simp)
  clear hbx
  have KX := S1'.kept
  generalize hWX : (w1.setCell ⟨w.heap.size + 1 + 1 + 1, 1, none⟩ (.int .i64 n)) = wX at *
  clear hWX
  go_region
  all_goals
    go_wp2_with fail
    (try simp only [Exit.inBlock, Exit.then])
    have tf := turn_set5 wX w.heap.size (.int .i64 6) (.int .i64 n) (.int .i64 0) (.int .i64 0) (.slice none 0 0)
    have tg := tf.drew
    refine bodyPost_ret (v := .tuple #[.agg #[.int .i64 6, .int .i64 n, .int .i64 0, .int .i64 0, .slice none 0 0], .int .i64 e1]) ?_ rfl ⟨n, 0, 0, .slice none 0 0, [], e1, rfl, rda_one (by decide) st1, ?_, ?_⟩
    · rw [results_cell_tmp rfl]
      go_simp
    · exact CRow.nil _ _ _
    · exact tg.kept KX (fun i hi => by omega)
set_option maxHeartbeats 4000000 in
theorem read_k7 (a : Option Addr) (m : Nat) (z : List UInt8) (t : List (List UInt8)) (w : World) (hr : Rdy w) (h7 : 7 ≤ w.heap.size) (hA : At w a (z :: t : List (List UInt8)).length (z :: t)) (hm : (z :: t : List (List UInt8)).length ≤ m) (hb : ∀ b f, a = some ⟨b, f, none⟩ → b < w.heap.size) (hz : z.length ≤ 100000) (ht : ∀ x ∈ t, x.length ≤ 100000) (hta : areB t = true) (htl : t.length ≤ 100000) :
    Calls Tryz.prog 85 #[.int .i64 7, .slice a (z :: t : List (List UInt8)).length m] w fun en w' => ∃ n v wt sv cs e, en = .returned (.tuple #[.agg #[.int .i64 7, .int .i64 n, .int .i64 v, .int .i64 wt, sv], .int .i64 e]) ∧ RdA 7 (z :: t) n v wt cs e ∧ CRow 57 w.heap.size w' sv cs ∧ Kept w w' := by
  obtain ⟨g0, g1, g2, g3, g4, g5, g6⟩ := hr.k7
  have hlt := hr.lt
  have HR : Hid (Rdy w) := hr
  have S0 := rg_start w [.string (B [115, 101, 108, 101, 99, 116]), .bool false, .bool false, .bool true, .bool true, .int .i64 0, .int .i64 0] [.int .i64 7, .int .i64 0, .int .i64 0, .int .i64 0, .slice none 0 0] a m (z :: t) (by simp) (by simp) hA hm hb
  clear hr hA hb
  go_enter Tryz.func85, Tryz.ntmps85
  go_wp2_with fail
  refine (wait_comb z S0.rd (fun _ => rfl) (by omega) hz (S0.rdy HR.out) h7).mono ?_
  rintro en w1 ⟨wt, e1, ws1, rfl, st1, hw1, R1, t1⟩
  have S1 := S0.turns t1 R1
  have q0 : w1.cell? ⟨w.heap.size + 1 + 1, 1, none⟩ = some (.bool false) := S1.shp.cell 1 (by simp)
  have q1 : w1.cell? ⟨w.heap.size + 1 + 1, 2, none⟩ = some (.bool false) := S1.shp.cell 2 (by simp)
  have q2 : w1.cell? ⟨w.heap.size + 1 + 1, 3, none⟩ = some (.bool true) := S1.shp.cell 3 (by simp)
  have q3 : w1.cell? ⟨w.heap.size + 1 + 1, 4, none⟩ = some (.bool true) := S1.shp.cell 4 (by simp)
  have z1 := S1.shp.lt.2
  have z2 := S1.op.lt.2
  have o0 : w1.cell? ⟨w.heap.size + 1 + 1 + 1, 0, none⟩ = some (.int .i64 7) := S1.op.cell 0 (by simp)
  have of0 := S1.op.frozen 0
  have o1 : w1.cell? ⟨w.heap.size + 1 + 1 + 1, 1, none⟩ = some (.int .i64 0) := S1.op.cell 1 (by simp)
  have of1 := S1.op.frozen 1
  have o2 : w1.cell? ⟨w.heap.size + 1 + 1 + 1, 2, none⟩ = some (.int .i64 0) := S1.op.cell 2 (by simp)
  have of2 := S1.op.frozen 2
  have o3 : w1.cell? ⟨w.heap.size + 1 + 1 + 1, 3, none⟩ = some (.int .i64 0) := S1.op.cell 3 (by simp)
  have of3 := S1.op.frozen 3
  have o4 : w1.cell? ⟨w.heap.size + 1 + 1 + 1, 4, none⟩ = some (.slice none 0 0) := S1.op.cell 4 (by simp)
  have of4 := S1.op.frozen 4
  have S1' := S1.set 3 (.int .i64 wt)
  go_wp2_with fail
  refine (cases_comb t S1'.rd hw1 hta htl ht (S1'.rdy HR.out) h7).mono ?_
  rintro en w2 ⟨sv, cs, e2, ws2, rfl, RR, sc, R2, t2⟩
  have S2 := S1'.turns t2 R2
  clear q0 q1 q2 q3 z1 z2 o0 o1 o2 o3 o4 of0 of1 of2 of3 of4
  obtain ⟨av, cv, hsv, _, _⟩ := RR.at
  generalize cs.length = nv at hsv
  subst hsv
  have q0 : w2.cell? ⟨w.heap.size + 1 + 1, 1, none⟩ = some (.bool false) := S2.shp.cell 1 (by simp)
  have q1 : w2.cell? ⟨w.heap.size + 1 + 1, 2, none⟩ = some (.bool false) := S2.shp.cell 2 (by simp)
  have q2 : w2.cell? ⟨w.heap.size + 1 + 1, 3, none⟩ = some (.bool true) := S2.shp.cell 3 (by simp)
  have q3 : w2.cell? ⟨w.heap.size + 1 + 1, 4, none⟩ = some (.bool true) := S2.shp.cell 4 (by simp)
  have z1 := S2.shp.lt.2
  have z2 := S2.op.lt.2
  have o0 : w2.cell? ⟨w.heap.size + 1 + 1 + 1, 0, none⟩ = some (.int .i64 7) := S2.op.cell 0 (by simp)
  have of0 := S2.op.frozen 0
  have o1 : w2.cell? ⟨w.heap.size + 1 + 1 + 1, 1, none⟩ = some (.int .i64 0) := S2.op.cell 1 (by simp)
  have of1 := S2.op.frozen 1
  have o2 : w2.cell? ⟨w.heap.size + 1 + 1 + 1, 2, none⟩ = some (.int .i64 0) := S2.op.cell 2 (by simp)
  have of2 := S2.op.frozen 2
  have o3 : w2.cell? ⟨w.heap.size + 1 + 1 + 1, 3, none⟩ = some (.int .i64 wt) := S2.op.cell 3 (by simp)
  have of3 := S2.op.frozen 3
  have o4 : w2.cell? ⟨w.heap.size + 1 + 1 + 1, 4, none⟩ = some (.slice none 0 0) := S2.op.cell 4 (by simp)
  have of4 := S2.op.frozen 4
  have S2' := S2.set 4 (.slice av nv cv)
  have RR2 : CRow 57 w.heap.size (w2.setCell ⟨w.heap.size + 1 + 1 + 1, 4, none⟩ (.slice av nv cv)) (.slice av nv cv) cs := (crow_base RR (S1'.kept.size)).turns (turn_set w2 (w.heap.size + 1 + 1 + 1) 4 (.slice av nv cv)) (fun q hq e => by have := (World.ownsRow.lt RR q hq).1; have := S1'.op.lt.2; omega)
  go_wp2_with fail
  clear q0 q1 q2 q3 z1 z2 o0 o1 o2 o3 o4 of0 of1 of2 of3 of4
  have o0 : (w2.setCell ⟨w.heap.size + 1 + 1 + 1, 4, none⟩ (.slice av nv cv)).cell? ⟨w.heap.size + 1 + 1 + 1, 0, none⟩ = some (.int .i64 7) := S2'.op.cell 0 (by simp)
  have of0 := S2'.op.frozen 0
  have o1 : (w2.setCell ⟨w.heap.size + 1 + 1 + 1, 4, none⟩ (.slice av nv cv)).cell? ⟨w.heap.size + 1 + 1 + 1, 1, none⟩ = some (.int .i64 0) := S2'.op.cell 1 (by simp)
  have of1 := S2'.op.frozen 1
  have o2 : (w2.setCell ⟨w.heap.size + 1 + 1 + 1, 4, none⟩ (.slice av nv cv)).cell? ⟨w.heap.size + 1 + 1 + 1, 2, none⟩ = some (.int .i64 0) := S2'.op.cell 2 (by simp)
  have of2 := S2'.op.frozen 2
  have o3 : (w2.setCell ⟨w.heap.size + 1 + 1 + 1, 4, none⟩ (.slice av nv cv)).cell? ⟨w.heap.size + 1 + 1 + 1, 3, none⟩ = some (.int .i64 wt) := S2'.op.cell 3 (by simp)
  have of3 := S2'.op.frozen 3
  have o4 : (w2.setCell ⟨w.heap.size + 1 + 1 + 1, 4, none⟩ (.slice av nv cv)).cell? ⟨w.heap.size + 1 + 1 + 1, 4, none⟩ = some (.slice av nv cv) := S2'.op.cell 4 (by simp)
  have of4 := S2'.op.frozen 4
  have p0 : (w2.setCell ⟨w.heap.size + 1 + 1 + 1, 4, none⟩ (.slice av nv cv)).cell? ⟨w.heap.size, 0, none⟩ = some (.int .i64 0) := S2'.ans.cell 0 (by simp)
  have pf0 := S2'.ans.frozen 0
  have p1 : (w2.setCell ⟨w.heap.size + 1 + 1 + 1, 4, none⟩ (.slice av nv cv)).cell? ⟨w.heap.size, 1, none⟩ = some (.int .i64 0) := S2'.ans.cell 1 (by simp)
  have pf1 := S2'.ans.frozen 1
  have p2 : (w2.setCell ⟨w.heap.size + 1 + 1 + 1, 4, none⟩ (.slice av nv cv)).cell? ⟨w.heap.size, 2, none⟩ = some (.int .i64 0) := S2'.ans.cell 2 (by simp)
  have pf2 := S2'.ans.frozen 2
  have p3 : (w2.setCell ⟨w.heap.size + 1 + 1 + 1, 4, none⟩ (.slice av nv cv)).cell? ⟨w.heap.size, 3, none⟩ = some (.int .i64 0) := S2'.ans.cell 3 (by simp)
  have pf3 := S2'.ans.frozen 3
  have p4 : (w2.setCell ⟨w.heap.size + 1 + 1 + 1, 4, none⟩ (.slice av nv cv)).cell? ⟨w.heap.size, 4, none⟩ = some (.slice none 0 0) := S2'.ans.cell 4 (by simp)
  have pf4 := S2'.ans.frozen 4
  have z3 := S2'.ans.lt.2
  have z2 := S2'.op.lt.2
  have z4 := S2'.rd.lt.2
  have HF : Hid (Rd w.heap.size (w2.setCell ⟨w.heap.size + 1 + 1 + 1, 4, none⟩ (.slice av nv cv)) (w.heap.size + 1) _ e2) := S2'.rd
  obtain ⟨ax, cx, hbx, _⟩ := HF.out
  have ec : (w2.setCell ⟨w.heap.size + 1 + 1 + 1, 4, none⟩ (.slice av nv cv)).cell? ⟨w.heap.size + 1, 1, none⟩ = some (.int .i64 e2) := hbx.cell 1 (by simp)
  clear hbx
  have KX := S2'.kept
  have KL := S1'.op.lt.2
  generalize hWX : (w2.setCell ⟨w.heap.size + 1 + 1 + 1, 4, none⟩ (.slice av nv cv)) = wX at *
  clear hWX
  go_region
  all_goals
    go_wp2_with fail
    (try simp only [Exit.inBlock, Exit.then])
    have tf := turn_set5 wX w.heap.size (.int .i64 7) (.int .i64 0) (.int .i64 0) (.int .i64 wt) (.slice av nv cv)
    have tg := tf.drew
    refine bodyPost_ret (v := .tuple #[.agg #[.int .i64 7, .int .i64 0, .int .i64 0, .int .i64 wt, .slice av nv cv], .int .i64 e2]) ?_ rfl ⟨0, 0, wt, .slice av nv cv, cs, e2, rfl, rda_pick st1 sc, ?_, ?_⟩
    · rw [results_cell_tmp rfl]
      go_simp
    · exact CRow.turns RR2 tg (fun q hq e => by have := (World.ownsRow.lt RR q hq).1; have := KL; omega)
    · exact tg.kept KX (fun i hi => by omega)
set_option maxHeartbeats 4000000 in
theorem read_k8 (a : Option Addr) (m : Nat) (x : List UInt8) (w : World) (hr : Rdy w) (h7 : 7 ≤ w.heap.size) (hA : At w a ([x] : List (List UInt8)).length ([x])) (hm : ([x] : List (List UInt8)).length ≤ m) (hb : ∀ b f, a = some ⟨b, f, none⟩ → b < w.heap.size) (hx : x.length ≤ 100000) :
    Calls Tryz.prog 85 #[.int .i64 8, .slice a ([x] : List (List UInt8)).length m] w fun en w' => ∃ n v wt sv cs e, en = .returned (.tuple #[.agg #[.int .i64 8, .int .i64 n, .int .i64 v, .int .i64 wt, sv], .int .i64 e]) ∧ RdA 8 ([x]) n v wt cs e ∧ CRow 57 w.heap.size w' sv cs ∧ Kept w w' := by
  obtain ⟨g0, g1, g2, g3, g4, g5, g6⟩ := hr.k8
  have hlt := hr.lt
  have HR : Hid (Rdy w) := hr
  have S0 := rg_start w [.string (B [108, 111, 111, 112]), .bool true, .bool false, .bool false, .bool false, .int .i64 1, .int .i64 32] [.int .i64 8, .int .i64 0, .int .i64 0, .int .i64 0, .slice none 0 0] a m ([x]) (by simp) (by simp) hA hm hb
  clear hr hA hb
  go_enter Tryz.func85, Tryz.ntmps85
  go_wp2_with fail
  refine (number_comb x S0.rd (fun _ => rfl) (by simp) hx (S0.rdy HR.out) h7).mono ?_
  rintro en w1 ⟨n, e1, ws1, rfl, st1, hw1, R1, t1⟩
  have S1 := S0.turns t1 R1
  have q0 : w1.cell? ⟨w.heap.size + 1 + 1, 1, none⟩ = some (.bool true) := S1.shp.cell 1 (by simp)
  have q1 : w1.cell? ⟨w.heap.size + 1 + 1, 2, none⟩ = some (.bool false) := S1.shp.cell 2 (by simp)
  have q2 : w1.cell? ⟨w.heap.size + 1 + 1, 3, none⟩ = some (.bool false) := S1.shp.cell 3 (by simp)
  have q3 : w1.cell? ⟨w.heap.size + 1 + 1, 4, none⟩ = some (.bool false) := S1.shp.cell 4 (by simp)
  have z1 := S1.shp.lt.2
  have z2 := S1.op.lt.2
  have o0 : w1.cell? ⟨w.heap.size + 1 + 1 + 1, 0, none⟩ = some (.int .i64 8) := S1.op.cell 0 (by simp)
  have of0 := S1.op.frozen 0
  have o1 : w1.cell? ⟨w.heap.size + 1 + 1 + 1, 1, none⟩ = some (.int .i64 0) := S1.op.cell 1 (by simp)
  have of1 := S1.op.frozen 1
  have o2 : w1.cell? ⟨w.heap.size + 1 + 1 + 1, 2, none⟩ = some (.int .i64 0) := S1.op.cell 2 (by simp)
  have of2 := S1.op.frozen 2
  have o3 : w1.cell? ⟨w.heap.size + 1 + 1 + 1, 3, none⟩ = some (.int .i64 0) := S1.op.cell 3 (by simp)
  have of3 := S1.op.frozen 3
  have o4 : w1.cell? ⟨w.heap.size + 1 + 1 + 1, 4, none⟩ = some (.slice none 0 0) := S1.op.cell 4 (by simp)
  have of4 := S1.op.frozen 4
  have S1' := S1.set 1 (.int .i64 n)
  go_wp2_with fail
  clear q0 q1 q2 q3 z1 z2 o0 o1 o2 o3 o4 of0 of1 of2 of3 of4
  have o0 : (w1.setCell ⟨w.heap.size + 1 + 1 + 1, 1, none⟩ (.int .i64 n)).cell? ⟨w.heap.size + 1 + 1 + 1, 0, none⟩ = some (.int .i64 8) := S1'.op.cell 0 (by simp)
  have of0 := S1'.op.frozen 0
  have o1 : (w1.setCell ⟨w.heap.size + 1 + 1 + 1, 1, none⟩ (.int .i64 n)).cell? ⟨w.heap.size + 1 + 1 + 1, 1, none⟩ = some (.int .i64 n) := S1'.op.cell 1 (by simp)
  have of1 := S1'.op.frozen 1
  have o2 : (w1.setCell ⟨w.heap.size + 1 + 1 + 1, 1, none⟩ (.int .i64 n)).cell? ⟨w.heap.size + 1 + 1 + 1, 2, none⟩ = some (.int .i64 0) := S1'.op.cell 2 (by simp)
  have of2 := S1'.op.frozen 2
  have o3 : (w1.setCell ⟨w.heap.size + 1 + 1 + 1, 1, none⟩ (.int .i64 n)).cell? ⟨w.heap.size + 1 + 1 + 1, 3, none⟩ = some (.int .i64 0) := S1'.op.cell 3 (by simp)
  have of3 := S1'.op.frozen 3
  have o4 : (w1.setCell ⟨w.heap.size + 1 + 1 + 1, 1, none⟩ (.int .i64 n)).cell? ⟨w.heap.size + 1 + 1 + 1, 4, none⟩ = some (.slice none 0 0) := S1'.op.cell 4 (by simp)
  have of4 := S1'.op.frozen 4
  have p0 : (w1.setCell ⟨w.heap.size + 1 + 1 + 1, 1, none⟩ (.int .i64 n)).cell? ⟨w.heap.size, 0, none⟩ = some (.int .i64 0) := S1'.ans.cell 0 (by simp)
  have pf0 := S1'.ans.frozen 0
  have p1 : (w1.setCell ⟨w.heap.size + 1 + 1 + 1, 1, none⟩ (.int .i64 n)).cell? ⟨w.heap.size, 1, none⟩ = some (.int .i64 0) := S1'.ans.cell 1 (by simp)
  have pf1 := S1'.ans.frozen 1
  have p2 : (w1.setCell ⟨w.heap.size + 1 + 1 + 1, 1, none⟩ (.int .i64 n)).cell? ⟨w.heap.size, 2, none⟩ = some (.int .i64 0) := S1'.ans.cell 2 (by simp)
  have pf2 := S1'.ans.frozen 2
  have p3 : (w1.setCell ⟨w.heap.size + 1 + 1 + 1, 1, none⟩ (.int .i64 n)).cell? ⟨w.heap.size, 3, none⟩ = some (.int .i64 0) := S1'.ans.cell 3 (by simp)
  have pf3 := S1'.ans.frozen 3
  have p4 : (w1.setCell ⟨w.heap.size + 1 + 1 + 1, 1, none⟩ (.int .i64 n)).cell? ⟨w.heap.size, 4, none⟩ = some (.slice none 0 0) := S1'.ans.cell 4 (by simp)
  have pf4 := S1'.ans.frozen 4
  have z3 := S1'.ans.lt.2
  have z2 := S1'.op.lt.2
  have z4 := S1'.rd.lt.2
  have HF : Hid (Rd w.heap.size (w1.setCell ⟨w.heap.size + 1 + 1 + 1, 1, none⟩ (.int .i64 n)) (w.heap.size + 1) _ e1) := S1'.rd
  obtain ⟨ax, cx, hbx, _⟩ := HF.out
  have ec : (w1.setCell ⟨w.heap.size + 1 + 1 + 1, 1, none⟩ (.int .i64 n)).cell? ⟨w.heap.size + 1, 1, none⟩ = some (.int .i64 e1) := hbx.cell 1 (by simp)
  clear hbx
  have KX := S1'.kept
  generalize hWX : (w1.setCell ⟨w.heap.size + 1 + 1 + 1, 1, none⟩ (.int .i64 n)) = wX at *
  clear hWX
  go_region
  all_goals
    go_wp2_with fail
    (try simp only [Exit.inBlock, Exit.then])
    have tf := turn_set5 wX w.heap.size (.int .i64 8) (.int .i64 n) (.int .i64 0) (.int .i64 0) (.slice none 0 0)
    have tg := tf.drew
    refine bodyPost_ret (v := .tuple #[.agg #[.int .i64 8, .int .i64 n, .int .i64 0, .int .i64 0, .slice none 0 0], .int .i64 e1]) ?_ rfl ⟨n, 0, 0, .slice none 0 0, [], e1, rfl, rda_one (by decide) st1, ?_, ?_⟩
    · rw [results_cell_tmp rfl]
      go_simp
    · exact CRow.nil _ _ _
    · exact tg.kept KX (fun i hi => by omega)
set_option maxHeartbeats 4000000 in
theorem read_k9 (a : Option Addr) (m : Nat) (w : World) (hr : Rdy w) (_h7 : 7 ≤ w.heap.size) (hA : At w a ([] : List (List UInt8)).length ([])) (hm : ([] : List (List UInt8)).length ≤ m) (hb : ∀ b f, a = some ⟨b, f, none⟩ → b < w.heap.size) :
    Calls Tryz.prog 85 #[.int .i64 9, .slice a ([] : List (List UInt8)).length m] w fun en w' => ∃ n v wt sv cs e, en = .returned (.tuple #[.agg #[.int .i64 9, .int .i64 n, .int .i64 v, .int .i64 wt, sv], .int .i64 e]) ∧ RdA 9 ([]) n v wt cs e ∧ CRow 57 w.heap.size w' sv cs ∧ Kept w w' := by
  obtain ⟨g0, g1, g2, g3, g4, g5, g6⟩ := hr.k9
  have hlt := hr.lt
  have HR : Hid (Rdy w) := hr
  have S0 := rg_start w [.string (B [101, 110, 100]), .bool false, .bool false, .bool false, .bool false, .int .i64 0, .int .i64 0] [.int .i64 9, .int .i64 0, .int .i64 0, .int .i64 0, .slice none 0 0] a m ([]) (by simp) (by simp) hA hm hb
  clear hr hA hb
  go_enter Tryz.func85, Tryz.ntmps85
  go_wp2_with fail
  have o0 : ((((w.alloc (.cells #[.int .i64 0, .int .i64 0, .int .i64 0, .int .i64 0, .slice none 0 0] 37)).alloc (.cells #[.slice a ([] : List (List UInt8)).length m, .int .i64 0] 161)).alloc (.cells #[.string (B [101, 110, 100]), .bool false, .bool false, .bool false, .bool false, .int .i64 0, .int .i64 0] 95)).alloc (.cells #[.int .i64 9, .int .i64 0, .int .i64 0, .int .i64 0, .slice none 0 0] 37)).cell? ⟨w.heap.size + 1 + 1 + 1, 0, none⟩ = some (.int .i64 9) := S0.op.cell 0 (by simp)
  have of0 := S0.op.frozen 0
  have o1 : ((((w.alloc (.cells #[.int .i64 0, .int .i64 0, .int .i64 0, .int .i64 0, .slice none 0 0] 37)).alloc (.cells #[.slice a ([] : List (List UInt8)).length m, .int .i64 0] 161)).alloc (.cells #[.string (B [101, 110, 100]), .bool false, .bool false, .bool false, .bool false, .int .i64 0, .int .i64 0] 95)).alloc (.cells #[.int .i64 9, .int .i64 0, .int .i64 0, .int .i64 0, .slice none 0 0] 37)).cell? ⟨w.heap.size + 1 + 1 + 1, 1, none⟩ = some (.int .i64 0) := S0.op.cell 1 (by simp)
  have of1 := S0.op.frozen 1
  have o2 : ((((w.alloc (.cells #[.int .i64 0, .int .i64 0, .int .i64 0, .int .i64 0, .slice none 0 0] 37)).alloc (.cells #[.slice a ([] : List (List UInt8)).length m, .int .i64 0] 161)).alloc (.cells #[.string (B [101, 110, 100]), .bool false, .bool false, .bool false, .bool false, .int .i64 0, .int .i64 0] 95)).alloc (.cells #[.int .i64 9, .int .i64 0, .int .i64 0, .int .i64 0, .slice none 0 0] 37)).cell? ⟨w.heap.size + 1 + 1 + 1, 2, none⟩ = some (.int .i64 0) := S0.op.cell 2 (by simp)
  have of2 := S0.op.frozen 2
  have o3 : ((((w.alloc (.cells #[.int .i64 0, .int .i64 0, .int .i64 0, .int .i64 0, .slice none 0 0] 37)).alloc (.cells #[.slice a ([] : List (List UInt8)).length m, .int .i64 0] 161)).alloc (.cells #[.string (B [101, 110, 100]), .bool false, .bool false, .bool false, .bool false, .int .i64 0, .int .i64 0] 95)).alloc (.cells #[.int .i64 9, .int .i64 0, .int .i64 0, .int .i64 0, .slice none 0 0] 37)).cell? ⟨w.heap.size + 1 + 1 + 1, 3, none⟩ = some (.int .i64 0) := S0.op.cell 3 (by simp)
  have of3 := S0.op.frozen 3
  have o4 : ((((w.alloc (.cells #[.int .i64 0, .int .i64 0, .int .i64 0, .int .i64 0, .slice none 0 0] 37)).alloc (.cells #[.slice a ([] : List (List UInt8)).length m, .int .i64 0] 161)).alloc (.cells #[.string (B [101, 110, 100]), .bool false, .bool false, .bool false, .bool false, .int .i64 0, .int .i64 0] 95)).alloc (.cells #[.int .i64 9, .int .i64 0, .int .i64 0, .int .i64 0, .slice none 0 0] 37)).cell? ⟨w.heap.size + 1 + 1 + 1, 4, none⟩ = some (.slice none 0 0) := S0.op.cell 4 (by simp)
  have of4 := S0.op.frozen 4
  have p0 : ((((w.alloc (.cells #[.int .i64 0, .int .i64 0, .int .i64 0, .int .i64 0, .slice none 0 0] 37)).alloc (.cells #[.slice a ([] : List (List UInt8)).length m, .int .i64 0] 161)).alloc (.cells #[.string (B [101, 110, 100]), .bool false, .bool false, .bool false, .bool false, .int .i64 0, .int .i64 0] 95)).alloc (.cells #[.int .i64 9, .int .i64 0, .int .i64 0, .int .i64 0, .slice none 0 0] 37)).cell? ⟨w.heap.size, 0, none⟩ = some (.int .i64 0) := S0.ans.cell 0 (by simp)
  have pf0 := S0.ans.frozen 0
  have p1 : ((((w.alloc (.cells #[.int .i64 0, .int .i64 0, .int .i64 0, .int .i64 0, .slice none 0 0] 37)).alloc (.cells #[.slice a ([] : List (List UInt8)).length m, .int .i64 0] 161)).alloc (.cells #[.string (B [101, 110, 100]), .bool false, .bool false, .bool false, .bool false, .int .i64 0, .int .i64 0] 95)).alloc (.cells #[.int .i64 9, .int .i64 0, .int .i64 0, .int .i64 0, .slice none 0 0] 37)).cell? ⟨w.heap.size, 1, none⟩ = some (.int .i64 0) := S0.ans.cell 1 (by simp)
  have pf1 := S0.ans.frozen 1
  have p2 : ((((w.alloc (.cells #[.int .i64 0, .int .i64 0, .int .i64 0, .int .i64 0, .slice none 0 0] 37)).alloc (.cells #[.slice a ([] : List (List UInt8)).length m, .int .i64 0] 161)).alloc (.cells #[.string (B [101, 110, 100]), .bool false, .bool false, .bool false, .bool false, .int .i64 0, .int .i64 0] 95)).alloc (.cells #[.int .i64 9, .int .i64 0, .int .i64 0, .int .i64 0, .slice none 0 0] 37)).cell? ⟨w.heap.size, 2, none⟩ = some (.int .i64 0) := S0.ans.cell 2 (by simp)
  have pf2 := S0.ans.frozen 2
  have p3 : ((((w.alloc (.cells #[.int .i64 0, .int .i64 0, .int .i64 0, .int .i64 0, .slice none 0 0] 37)).alloc (.cells #[.slice a ([] : List (List UInt8)).length m, .int .i64 0] 161)).alloc (.cells #[.string (B [101, 110, 100]), .bool false, .bool false, .bool false, .bool false, .int .i64 0, .int .i64 0] 95)).alloc (.cells #[.int .i64 9, .int .i64 0, .int .i64 0, .int .i64 0, .slice none 0 0] 37)).cell? ⟨w.heap.size, 3, none⟩ = some (.int .i64 0) := S0.ans.cell 3 (by simp)
  have pf3 := S0.ans.frozen 3
  have p4 : ((((w.alloc (.cells #[.int .i64 0, .int .i64 0, .int .i64 0, .int .i64 0, .slice none 0 0] 37)).alloc (.cells #[.slice a ([] : List (List UInt8)).length m, .int .i64 0] 161)).alloc (.cells #[.string (B [101, 110, 100]), .bool false, .bool false, .bool false, .bool false, .int .i64 0, .int .i64 0] 95)).alloc (.cells #[.int .i64 9, .int .i64 0, .int .i64 0, .int .i64 0, .slice none 0 0] 37)).cell? ⟨w.heap.size, 4, none⟩ = some (.slice none 0 0) := S0.ans.cell 4 (by simp)
  have pf4 := S0.ans.frozen 4
  have z3 := S0.ans.lt.2
  have z2 := S0.op.lt.2
  have z4 := S0.rd.lt.2
  have HF : Hid (Rd w.heap.size ((((w.alloc (.cells #[.int .i64 0, .int .i64 0, .int .i64 0, .int .i64 0, .slice none 0 0] 37)).alloc (.cells #[.slice a ([] : List (List UInt8)).length m, .int .i64 0] 161)).alloc (.cells #[.string (B [101, 110, 100]), .bool false, .bool false, .bool false, .bool false, .int .i64 0, .int .i64 0] 95)).alloc (.cells #[.int .i64 9, .int .i64 0, .int .i64 0, .int .i64 0, .slice none 0 0] 37)) (w.heap.size + 1) _ 0) := S0.rd
  obtain ⟨ax, cx, hbx, _⟩ := HF.out
  have ec : ((((w.alloc (.cells #[.int .i64 0, .int .i64 0, .int .i64 0, .int .i64 0, .slice none 0 0] 37)).alloc (.cells #[.slice a ([] : List (List UInt8)).length m, .int .i64 0] 161)).alloc (.cells #[.string (B [101, 110, 100]), .bool false, .bool false, .bool false, .bool false, .int .i64 0, .int .i64 0] 95)).alloc (.cells #[.int .i64 9, .int .i64 0, .int .i64 0, .int .i64 0, .slice none 0 0] 37)).cell? ⟨w.heap.size + 1, 1, none⟩ = some (.int .i64 0) := hbx.cell 1 (by simp)
  clear hbx
  have KX := S0.kept
  generalize hWX : ((((w.alloc (.cells #[.int .i64 0, .int .i64 0, .int .i64 0, .int .i64 0, .slice none 0 0] 37)).alloc (.cells #[.slice a ([] : List (List UInt8)).length m, .int .i64 0] 161)).alloc (.cells #[.string (B [101, 110, 100]), .bool false, .bool false, .bool false, .bool false, .int .i64 0, .int .i64 0] 95)).alloc (.cells #[.int .i64 9, .int .i64 0, .int .i64 0, .int .i64 0, .slice none 0 0] 37)) = wX at *
  clear hWX
  go_region
  all_goals
    go_wp2_with fail
    (try simp only [Exit.inBlock, Exit.then])
    have tf := turn_set5 wX w.heap.size (.int .i64 9) (.int .i64 0) (.int .i64 0) (.int .i64 0) (.slice none 0 0)
    have tg := tf.drew
    refine bodyPost_ret (v := .tuple #[.agg #[.int .i64 9, .int .i64 0, .int .i64 0, .int .i64 0, .slice none 0 0], .int .i64 0]) ?_ rfl ⟨0, 0, 0, .slice none 0 0, [], 0, rfl, ⟨rfl, fun _ => rfl⟩, ?_, ?_⟩
    · rw [results_cell_tmp rfl]
      go_simp
    · exact CRow.nil _ _ _
    · exact tg.kept KX (fun i hi => by omega)
end Go.Proofs.YtolljdomnohmdabGreatDoor

/- The law's own known, of sets. -/
import Derived.Test.YtolljdomnohmdaaDoorTwo
namespace Go.Proofs.YtolljdomnohmdaaDoor
open Go.RowKit

/-- The two tasks in memory. -/
structure TwoS (Bd : Nat) (w : World) (g a b : Nat) : Prop where
  bx : Box Bd w 70 g [.string (B fastW), .int .i64 10, .int .i64 8, .int .i64 3, .slice (some ⟨a, 0, none⟩) 4 4, .string (B slowW), .int .i64 20, .int .i64 20, .int .i64 6, .slice (some ⟨b, 0, none⟩) 4 4]
  pa : AtP w (some ⟨a, 0, none⟩) twPA
  pb : AtP w (some ⟨b, 0, none⟩) twPB
  lo : Bd ≤ a ∧ Bd ≤ b ∧ Bd ≤ g
  ne : a ≠ g ∧ b ≠ g
  hi : a < w.heap.size ∧ b < w.heap.size ∧ g < w.heap.size
theorem TwoS.turns {S : Nat → Prop} {Bd : Nat} {w w' : World} {g a b : Nat} (h : TwoS Bd w g a b) (t : Turns S w w') (hs : ¬ S g ∧ ¬ S a ∧ ¬ S b) : TwoS Bd w' g a b := by
  have := t.size
  have := h.hi
  exact ⟨h.bx.turns t hs.1, h.pa.turn0 t hs.2.1 tw_nilA, h.pb.turn0 t hs.2.2 tw_nilB, h.lo, h.ne, by omega⟩
theorem TwoS.kept {Bd : Nat} {w w' : World} {g a b : Nat} (h : TwoS Bd w g a b) (k : Kept w w') : TwoS Bd w' g a b := h.turns k.turns ⟨fun x => x, fun x => x, fun x => x⟩
theorem Box.base {Bd Bd' : Nat} {w : World} {e : TypeId} {b : Nat} {cs : List Value} (h : Box Bd w e b cs) (hb : Bd' ≤ Bd) : Box Bd' w e b cs := by
  refine ⟨h.1, ?_⟩
  rcases h.2 with hn | ⟨g, cap, cur, h1, hg, rest⟩
  · exact .inl hn
  · exact .inr ⟨g, cap, cur, h1, by omega, rest⟩
theorem TwoS.base {Bd Bd' : Nat} {w : World} {g a b : Nat} (h : TwoS Bd w g a b) (hb : Bd' ≤ Bd) : TwoS Bd' w g a b := ⟨h.bx.base hb, h.pa, h.pb, by have := h.lo; omega, h.ne, h.hi⟩
theorem two_ex (w : World) : Calls Tryd.prog 56 #[] w fun e w' => ∃ g a b, e = .returned (.agg #[.int .i64 1, .slice none 0 0, .slice (some ⟨g, 0, none⟩) 2 2]) ∧ Kept w w' ∧ TwoS w.heap.size w' g a b := by
  refine (two_any w).mono ?_
  rintro e w' ⟨rfl, K, hx, ha, hb, hs⟩
  exact ⟨_, _, _, rfl, K, hx, ha, hb, by omega, by omega, by omega⟩
theorem TwoS.tasks {Bd : Nat} {w : World} {g a b : Nat} (h : TwoS Bd w g a b) : AtT w (some ⟨g, 0, none⟩) [twA, twBB] := two_at (p1 := twPA) (p2 := twPB) h.bx h.pa h.pb (by decide) (by decide)
def twX1 : List TaskD := [twA, ⟨fastW, 20, 20, 6, twPB⟩]
def twX2 : List TaskD := [twA, ⟨slowW, 20, 21, 6, twPB⟩]
def twX3 : List TaskD := [⟨fastW, 10, 8, 3, []⟩, twBB]
theorem TwoS.set1 {Bd : Nat} {w : World} {g a b : Nat} (h : TwoS Bd w g a b) : AtT (w.setCell ⟨g, 5, none⟩ (.string (B fastW))) (some ⟨g, 0, none⟩) twX1 := two_at (p1 := twPA) (p2 := twPB) (h.bx.set 5 (.string (B fastW))) (h.pa.turn0 (turn_set w g 5 _) (by have := h.ne; omega) tw_nilA) (h.pb.turn0 (turn_set w g 5 _) (by have := h.ne; omega) tw_nilB) (by decide) (by decide)
theorem TwoS.set2 {Bd : Nat} {w : World} {g a b : Nat} (h : TwoS Bd w g a b) : AtT (w.setCell ⟨g, 7, none⟩ (.int .i64 21)) (some ⟨g, 0, none⟩) twX2 := two_at (p1 := twPA) (p2 := twPB) (h.bx.set 7 (.int .i64 21)) (h.pa.turn0 (turn_set w g 7 _) (by have := h.ne; omega) tw_nilA) (h.pb.turn0 (turn_set w g 7 _) (by have := h.ne; omega) tw_nilB) (by decide) (by decide)
theorem TwoS.set3 {Bd : Nat} {w : World} {g a b : Nat} (h : TwoS Bd w g a b) : AtT (w.setCell ⟨g, 4, none⟩ (.slice none 0 0)) (some ⟨g, 0, none⟩) twX3 := two_at (p1 := []) (p2 := twPB) (h.bx.set 4 (.slice none 0 0)) (AtP.nil _ _) (h.pb.turn0 (turn_set w g 4 _) (by have := h.ne; omega) tw_nilB) (by decide) (by decide)
theorem tw_ok {l : List TaskD} (h : ∀ t ∈ l, t.name.length ≤ 1000 ∧ t.prog.length ≤ 1000 ∧ ∀ o ∈ t.prog, o.cases = []) : TsOk l := fun t ht => ⟨by have := (h t ht).1; omega, by have := (h t ht).2.1; omega, fun o ho => by rw [(h t ht).2.2 o ho]; simp⟩
theorem tw_ok0 : TsOk [twA, twBB] := tw_ok (by decide +kernel)
theorem tw_ok1 : TsOk twX1 := tw_ok (by decide +kernel)
theorem tw_ok2 : TsOk twX2 := tw_ok (by decide +kernel)
theorem tw_ok3 : TsOk twX3 := tw_ok (by decide +kernel)
theorem tw_c0 : checkS 1 [] [twA, twBB] = (0, 0) := by decide +kernel
theorem tw_c1 : checkS 1 [] twX1 = (1, 6) := by decide +kernel
theorem tw_cL : checkS 0 [] [twA, twBB] = (0, 3) := by decide +kernel
theorem tw_c2 : checkS 1 [] twX2 = (1, 1) := by decide +kernel
theorem tw_c3 : checkS 1 [] twX3 = (0, 5) := by decide +kernel
theorem tw_c4 : checkS 0 [] [] = (0, 18) := by decide +kernel
def slowerW : List UInt8 := [115, 108, 111, 119, 101, 114]
theorem tw_f1 : findGo slowW 0 [twA, twBB] = (1, true) := by decide +kernel
theorem tw_f2 : findGo slowerW 0 [twA, twBB] = (0, false) := by decide +kernel
theorem tw_same : sameTs [twA, twBB] [twA, twBB] = true := by decide +kernel
theorem tw_same3 : sameTs [twA, twBB] twX3 = false := by decide +kernel
theorem tw_waits : anyT [twA, twBB] = false := by decide +kernel
theorem tw_need : min (costD twPB) 6 = 5 := by decide +kernel
theorem tw_pb : checkP twPB = (0, 0) := by decide +kernel

set_option maxHeartbeats 8000000 in
set_option maxRecDepth 20000 in
theorem sknown_true (w : World) (hr : Rdy w) : Calls Tryd.prog 27 #[] w fun e w' => e = .returned (.bool true) ∧ Kept w w' := by
  have HR : Hid (Rdy w) := hr
  clear hr
  go_enter Tryd.func27, Tryd.ntmps27
  go_wp2_with fail
  refine (two_ex w).mono ?_
  rintro e w1 ⟨g1, a1, b1, rfl, K1, S1⟩
  have HB1 : Hid (Box w.heap.size (w1.alloc (.cells #[.int .i64 1, .slice none 0 0, .slice (some ⟨g1, 0, none⟩) 2 2] 58)) 58 w1.heap.size [.int .i64 1, .slice none 0 0, .slice (some ⟨g1, 0, none⟩) 2 2]) := box_new w.heap.size w1 58 [.int .i64 1, .slice none 0 0, .slice (some ⟨g1, 0, none⟩) 2 2] K1.size (by simp)
  have KA := K1.alloc (.cells #[.int .i64 1, .slice none 0 0, .slice (some ⟨g1, 0, none⟩) 2 2] 58)
  have HS1 : Hid (TwoS w.heap.size (w1.alloc (.cells #[.int .i64 1, .slice none 0 0, .slice (some ⟨g1, 0, none⟩) 2 2] 58)) g1 a1 b1) := S1.kept ((Kept.refl w1).alloc _)
  have hsb : g1 < w1.heap.size ∧ a1 < w1.heap.size ∧ b1 < w1.heap.size := ⟨S1.hi.2.2, S1.hi.1, S1.hi.2.1⟩
  obtain ⟨sb, hsbe⟩ : ∃ sb, w1.heap.size = sb := ⟨_, rfl⟩
  have h2 := scheck_any 1 none (some ⟨g1, 0, none⟩) 0 2 [] [twA, twBB] _ (HR.out.kept KA) (AtH.nil _ _) HS1.out.tasks tw_ok0 (by decide) (by decide)
  rw [tw_c0, show ([] : List ChanD).length = 0 from rfl, show ([twA, twBB] : List TaskD).length = 2 from rfl] at h2
  clear S1
  rw [hsbe] at HB1 hsb
  go_wp2_with fail
  refine h2.mono ?_
  rintro e w2 ⟨rfl, t2⟩
  have K2 := KA.trans t2
  have HSB : Hid (Box w.heap.size w2 58 sb [.int .i64 1, .slice none 0 0, .slice (some ⟨g1, 0, none⟩) 2 2]) := HB1.out.kept t2
  have HS : Hid (TwoS w.heap.size w2 g1 a1 b1) := HS1.out.kept t2
  have hsb2 : sb < w2.heap.size := HSB.out.lt.2
  clear h2 HB1 HS1 KA t2 K1 hsbe
  go_wp2_with fail
  refine (two_ex w2).mono ?_
  rintro e w3 ⟨g2, a2, b2, rfl, K3, S3⟩
  have lo2 := S3.lo
  have hi2 := S3.hi
  have ne2 := S3.ne
  have sz3 := K3.size
  have KA := (K2.trans K3).alloc (.cells #[.int .i64 1, .slice none 0 0, .slice (some ⟨g2, 0, none⟩) 2 2] 58)
  have KL := (Kept.refl w3).alloc (.cells #[.int .i64 1, .slice none 0 0, .slice (some ⟨g2, 0, none⟩) 2 2] 58)
  obtain ⟨xb, hxb⟩ : ∃ xb, w3.heap.size = xb := ⟨_, rfl⟩
  have HXB : Hid (Box w.heap.size (w3.alloc (.cells #[.int .i64 1, .slice none 0 0, .slice (some ⟨g2, 0, none⟩) 2 2] 58)) 58 xb [.int .i64 1, .slice none 0 0, .slice (some ⟨g2, 0, none⟩) 2 2]) := by
    have h := box_new w.heap.size w3 58 [.int .i64 1, .slice none 0 0, .slice (some ⟨g2, 0, none⟩) 2 2] (K2.trans K3).size (by simp)
    rw [hxb] at h
    exact h
  have HX3 : Hid (TwoS w.heap.size (w3.alloc (.cells #[.int .i64 1, .slice none 0 0, .slice (some ⟨g2, 0, none⟩) 2 2] 58)) g2 a2 b2) := (S3.kept KL).base K2.size
  have tf := turn_set (w3.alloc (.cells #[.int .i64 1, .slice none 0 0, .slice (some ⟨g2, 0, none⟩) 2 2] 58)) g2 5 (.string { data := #[102, 97, 115, 116] })
  have x2 : (w3.alloc (.cells #[.int .i64 1, .slice none 0 0, .slice (some ⟨g2, 0, none⟩) 2 2] 58)).cell? ⟨xb, 2, none⟩ = some (.slice (some ⟨g2, 0, none⟩) 2 2) := HXB.out.cell 2 (by simp)
  have y5 : (w3.alloc (.cells #[.int .i64 1, .slice none 0 0, .slice (some ⟨g2, 0, none⟩) 2 2] 58)).cell? ⟨g2, 5, none⟩ = some (.string (B slowW)) := HX3.out.bx.cell 5 (by simp)
  have f5 : (w3.alloc (.cells #[.int .i64 1, .slice none 0 0, .slice (some ⟨g2, 0, none⟩) 2 2] 58)).frozen? ⟨g2, 5, none⟩ = false := HX3.out.bx.frozen 5
  have HXE : Hid (Box w.heap.size ((w3.alloc (.cells #[.int .i64 1, .slice none 0 0, .slice (some ⟨g2, 0, none⟩) 2 2] 58)).setCell ⟨g2, 5, none⟩ (.string { data := #[102, 97, 115, 116] })) 58 xb [.int .i64 1, .slice none 0 0, .slice (some ⟨g2, 0, none⟩) 2 2]) := HXB.out.turns tf (by omega)
  have q0 : ((w3.alloc (.cells #[.int .i64 1, .slice none 0 0, .slice (some ⟨g2, 0, none⟩) 2 2] 58)).setCell ⟨g2, 5, none⟩ (.string { data := #[102, 97, 115, 116] })).cell? ⟨xb, 0, none⟩ = some (.int .i64 1) := HXE.out.cell 0 (by simp)
  have q1 : ((w3.alloc (.cells #[.int .i64 1, .slice none 0 0, .slice (some ⟨g2, 0, none⟩) 2 2] 58)).setCell ⟨g2, 5, none⟩ (.string { data := #[102, 97, 115, 116] })).cell? ⟨xb, 1, none⟩ = some (.slice none 0 0) := HXE.out.cell 1 (by simp)
  have q2 : ((w3.alloc (.cells #[.int .i64 1, .slice none 0 0, .slice (some ⟨g2, 0, none⟩) 2 2] 58)).setCell ⟨g2, 5, none⟩ (.string { data := #[102, 97, 115, 116] })).cell? ⟨xb, 2, none⟩ = some (.slice (some ⟨g2, 0, none⟩) 2 2) := HXE.out.cell 2 (by simp)
  have KE : Kept w ((w3.alloc (.cells #[.int .i64 1, .slice none 0 0, .slice (some ⟨g2, 0, none⟩) 2 2] 58)).setCell ⟨g2, 5, none⟩ (.string { data := #[102, 97, 115, 116] })) := tf.kept KA (fun i hi => by have := K2.size; omega)
  have HSBE : Hid (Box w.heap.size ((w3.alloc (.cells #[.int .i64 1, .slice none 0 0, .slice (some ⟨g2, 0, none⟩) 2 2] 58)).setCell ⟨g2, 5, none⟩ (.string { data := #[102, 97, 115, 116] })) 58 sb [.int .i64 1, .slice none 0 0, .slice (some ⟨g1, 0, none⟩) 2 2]) := (HSB.out.kept (K3.trans KL)).turns tf (by omega)
  have HSE : Hid (TwoS w.heap.size ((w3.alloc (.cells #[.int .i64 1, .slice none 0 0, .slice (some ⟨g2, 0, none⟩) 2 2] 58)).setCell ⟨g2, 5, none⟩ (.string { data := #[102, 97, 115, 116] })) g1 a1 b1) := (HS.out.kept (K3.trans KL)).turns tf (by omega)
  have h5 := scheck_any 1 none (some ⟨g2, 0, none⟩) 0 2 [] twX1 _ (HR.out.kept KE) (AtH.nil _ _) (HX3.out.set1) tw_ok1 (by decide) (by decide)
  rw [tw_c1, show ([] : List ChanD).length = 0 from rfl, show twX1.length = 2 from rfl] at h5
  clear S3
  go_wp2_with fail
  refine h5.mono ?_
  rintro e w5 ⟨rfl, t5⟩
  have K5 := KE.trans t5
  have HXB5 : Hid (Box w.heap.size w5 58 xb [.int .i64 1, .slice none 0 0, .slice (some ⟨g2, 0, none⟩) 2 2]) := HXE.out.kept t5
  have HSB5 : Hid (Box w.heap.size w5 58 sb [.int .i64 1, .slice none 0 0, .slice (some ⟨g1, 0, none⟩) 2 2]) := HSBE.out.kept t5
  have HS5 : Hid (TwoS w.heap.size w5 g1 a1 b1) := HSE.out.kept t5
  have hx5 : sb < xb ∧ xb < w5.heap.size := ⟨by omega, HXB5.out.lt.2⟩
  clear h5 t5 KE HSBE HSE HXE q0 q1 q2 tf f5 y5 x2 HX3 HXB hxb KL KA K3 HS HSB K2 hsb2 lo2 hi2 ne2 sz3
  have HXBp : Hid (∃ L gq, Box w.heap.size w5 58 xb [.int .i64 L, .slice none 0 0, .slice (some ⟨gq, 0, none⟩) 2 2]) := ⟨_, _, HXB5.out⟩
  clear HXB5
  go_wp2_with fail
  refine (two_ex w5).mono ?_
  rintro e w6 ⟨g6, aa6, bb6, rfl, KT, ST⟩
  obtain ⟨Lq, gq, hbq⟩ := HXBp.out
  have HBQ : Hid (Box w.heap.size w6 58 xb [.int .i64 Lq, .slice none 0 0, .slice (some ⟨gq, 0, none⟩) 2 2]) := hbq.kept KT
  clear hbq HXBp
  have c0 : w6.cell? ⟨xb, 0, none⟩ = some (.int .i64 Lq) := HBQ.out.cell 0 (by simp)
  have c1 : w6.cell? ⟨xb, 1, none⟩ = some (.slice none 0 0) := HBQ.out.cell 1 (by simp)
  have c2 : w6.cell? ⟨xb, 2, none⟩ = some (.slice (some ⟨gq, 0, none⟩) 2 2) := HBQ.out.cell 2 (by simp)
  have f0 := HBQ.out.frozen 0
  have f1 := HBQ.out.frozen 1
  have f2 := HBQ.out.frozen 2
  have lo := ST.lo
  have hi := ST.hi
  have ne := ST.ne
  have tx : Turns (fun k => k = xb) w6 (((w6.setCell ⟨xb, 0, none⟩ (.int .i64 1)).setCell ⟨xb, 1, none⟩ (.slice none 0 0)).setCell ⟨xb, 2, none⟩ (.slice (some ⟨g6, 0, none⟩) 2 2)) := ((turn_set w6 xb 0 (.int .i64 1)).setCell (p := ⟨xb, 1, none⟩) rfl _).setCell (p := ⟨xb, 2, none⟩) rfl _
  have HBE : Hid (Box w.heap.size (((w6.setCell ⟨xb, 0, none⟩ (.int .i64 1)).setCell ⟨xb, 1, none⟩ (.slice none 0 0)).setCell ⟨xb, 2, none⟩ (.slice (some ⟨g6, 0, none⟩) 2 2)) 58 xb [.int .i64 1, .slice none 0 0, .slice (some ⟨g6, 0, none⟩) 2 2]) := ((HBQ.out.set 0 (.int .i64 1)).set 1 (.slice none 0 0)).set 2 (.slice (some ⟨g6, 0, none⟩) 2 2)
  have HXT : Hid (TwoS w.heap.size (((w6.setCell ⟨xb, 0, none⟩ (.int .i64 1)).setCell ⟨xb, 1, none⟩ (.slice none 0 0)).setCell ⟨xb, 2, none⟩ (.slice (some ⟨g6, 0, none⟩) 2 2)) g6 aa6 bb6) := ((ST.base K5.size).turns tx (by omega))
  have KX : Kept w (((w6.setCell ⟨xb, 0, none⟩ (.int .i64 1)).setCell ⟨xb, 1, none⟩ (.slice none 0 0)).setCell ⟨xb, 2, none⟩ (.slice (some ⟨g6, 0, none⟩) 2 2)) := tx.kept (K5.trans KT) (fun i hi => by have := HBQ.out.lt.1; omega)
  have HSX : Hid (TwoS w.heap.size (((w6.setCell ⟨xb, 0, none⟩ (.int .i64 1)).setCell ⟨xb, 1, none⟩ (.slice none 0 0)).setCell ⟨xb, 2, none⟩ (.slice (some ⟨g6, 0, none⟩) 2 2)) g1 a1 b1) := (HS5.out.kept KT).turns tx (by omega)
  have HSBX : Hid (Box w.heap.size (((w6.setCell ⟨xb, 0, none⟩ (.int .i64 1)).setCell ⟨xb, 1, none⟩ (.slice none 0 0)).setCell ⟨xb, 2, none⟩ (.slice (some ⟨g6, 0, none⟩) 2 2)) 58 sb [.int .i64 1, .slice none 0 0, .slice (some ⟨g1, 0, none⟩) 2 2]) := (HSB5.out.kept KT).turns tx (by omega)
  have tm := turn_set (((w6.setCell ⟨xb, 0, none⟩ (.int .i64 1)).setCell ⟨xb, 1, none⟩ (.slice none 0 0)).setCell ⟨xb, 2, none⟩ (.slice (some ⟨g6, 0, none⟩) 2 2)) xb 0 (.int .i64 0)
  have HBF : Hid (Box w.heap.size ((((w6.setCell ⟨xb, 0, none⟩ (.int .i64 1)).setCell ⟨xb, 1, none⟩ (.slice none 0 0)).setCell ⟨xb, 2, none⟩ (.slice (some ⟨g6, 0, none⟩) 2 2)).setCell ⟨xb, 0, none⟩ (.int .i64 0)) 58 xb [.int .i64 0, .slice none 0 0, .slice (some ⟨g6, 0, none⟩) 2 2]) := HBE.out.set 0 (.int .i64 0)
  have KE : Kept w ((((w6.setCell ⟨xb, 0, none⟩ (.int .i64 1)).setCell ⟨xb, 1, none⟩ (.slice none 0 0)).setCell ⟨xb, 2, none⟩ (.slice (some ⟨g6, 0, none⟩) 2 2)).setCell ⟨xb, 0, none⟩ (.int .i64 0)) := tm.kept KX (fun i hi => by have := HBQ.out.lt.1; omega)
  have q0 : ((((w6.setCell ⟨xb, 0, none⟩ (.int .i64 1)).setCell ⟨xb, 1, none⟩ (.slice none 0 0)).setCell ⟨xb, 2, none⟩ (.slice (some ⟨g6, 0, none⟩) 2 2)).setCell ⟨xb, 0, none⟩ (.int .i64 0)).cell? ⟨xb, 0, none⟩ = some (.int .i64 0) := HBF.out.cell 0 (by simp)
  have q1 : ((((w6.setCell ⟨xb, 0, none⟩ (.int .i64 1)).setCell ⟨xb, 1, none⟩ (.slice none 0 0)).setCell ⟨xb, 2, none⟩ (.slice (some ⟨g6, 0, none⟩) 2 2)).setCell ⟨xb, 0, none⟩ (.int .i64 0)).cell? ⟨xb, 1, none⟩ = some (.slice none 0 0) := HBF.out.cell 1 (by simp)
  have q2 : ((((w6.setCell ⟨xb, 0, none⟩ (.int .i64 1)).setCell ⟨xb, 1, none⟩ (.slice none 0 0)).setCell ⟨xb, 2, none⟩ (.slice (some ⟨g6, 0, none⟩) 2 2)).setCell ⟨xb, 0, none⟩ (.int .i64 0)).cell? ⟨xb, 2, none⟩ = some (.slice (some ⟨g6, 0, none⟩) 2 2) := HBF.out.cell 2 (by simp)
  have HSE : Hid (TwoS w.heap.size ((((w6.setCell ⟨xb, 0, none⟩ (.int .i64 1)).setCell ⟨xb, 1, none⟩ (.slice none 0 0)).setCell ⟨xb, 2, none⟩ (.slice (some ⟨g6, 0, none⟩) 2 2)).setCell ⟨xb, 0, none⟩ (.int .i64 0)) g1 a1 b1) := HSX.out.turns tm (by omega)
  have HSBE : Hid (Box w.heap.size ((((w6.setCell ⟨xb, 0, none⟩ (.int .i64 1)).setCell ⟨xb, 1, none⟩ (.slice none 0 0)).setCell ⟨xb, 2, none⟩ (.slice (some ⟨g6, 0, none⟩) 2 2)).setCell ⟨xb, 0, none⟩ (.int .i64 0)) 58 sb [.int .i64 1, .slice none 0 0, .slice (some ⟨g1, 0, none⟩) 2 2]) := HSBX.out.turns tm (by omega)
  have hck := scheck_any 0 none (some ⟨g6, 0, none⟩) 0 2 [] [twA, twBB] _ (HR.out.kept KE) (AtH.nil _ _) (HXT.out.turns tm (by omega)).tasks tw_ok0 (by decide) (by decide)
  rw [tw_cL, show ([] : List ChanD).length = 0 from rfl, show ([twA, twBB] : List TaskD).length = 2 from rfl] at hck
  clear HXT
  go_wp2_with fail
  refine hck.mono ?_
  rintro e w7 ⟨rfl, t7⟩
  have K7 := KE.trans t7
  have HSB7 : Hid (Box w.heap.size w7 58 sb [.int .i64 1, .slice none 0 0, .slice (some ⟨g1, 0, none⟩) 2 2]) := HSBE.out.kept t7
  have HS7 : Hid (TwoS w.heap.size w7 g1 a1 b1) := HSE.out.kept t7
  have HXB7 : Hid (Box w.heap.size w7 58 xb [.int .i64 0, .slice none 0 0, .slice (some ⟨g6, 0, none⟩) 2 2]) := HBF.out.kept t7
  have hx7 : sb < xb ∧ xb < w7.heap.size := ⟨hx5.1, HXB7.out.lt.2⟩
  have HXBp : Hid (∃ L gq, Box w.heap.size w7 58 xb [.int .i64 L, .slice none 0 0, .slice (some ⟨gq, 0, none⟩) 2 2]) := ⟨_, _, HXB7.out⟩
  clear HXB7
  clear hck HSE HSBE q0 q1 q2 KE tm HBF HSX HSBX KX HBE tx c0 c1 c2 f0 f1 f2 lo hi ne HBQ KT ST HS5 HSB5 K5 hx5 t7
  go_wp2_with fail
  refine (two_ex w7).mono ?_
  rintro e w8 ⟨g8, aa8, bb8, rfl, KT, ST⟩
  obtain ⟨Lq, gq, hbq⟩ := HXBp.out
  have HBQ : Hid (Box w.heap.size w8 58 xb [.int .i64 Lq, .slice none 0 0, .slice (some ⟨gq, 0, none⟩) 2 2]) := hbq.kept KT
  clear hbq HXBp
  have c0 : w8.cell? ⟨xb, 0, none⟩ = some (.int .i64 Lq) := HBQ.out.cell 0 (by simp)
  have c1 : w8.cell? ⟨xb, 1, none⟩ = some (.slice none 0 0) := HBQ.out.cell 1 (by simp)
  have c2 : w8.cell? ⟨xb, 2, none⟩ = some (.slice (some ⟨gq, 0, none⟩) 2 2) := HBQ.out.cell 2 (by simp)
  have f0 := HBQ.out.frozen 0
  have f1 := HBQ.out.frozen 1
  have f2 := HBQ.out.frozen 2
  have lo := ST.lo
  have hi := ST.hi
  have ne := ST.ne
  have tx : Turns (fun k => k = xb) w8 (((w8.setCell ⟨xb, 0, none⟩ (.int .i64 1)).setCell ⟨xb, 1, none⟩ (.slice none 0 0)).setCell ⟨xb, 2, none⟩ (.slice (some ⟨g8, 0, none⟩) 2 2)) := ((turn_set w8 xb 0 (.int .i64 1)).setCell (p := ⟨xb, 1, none⟩) rfl _).setCell (p := ⟨xb, 2, none⟩) rfl _
  have HBE : Hid (Box w.heap.size (((w8.setCell ⟨xb, 0, none⟩ (.int .i64 1)).setCell ⟨xb, 1, none⟩ (.slice none 0 0)).setCell ⟨xb, 2, none⟩ (.slice (some ⟨g8, 0, none⟩) 2 2)) 58 xb [.int .i64 1, .slice none 0 0, .slice (some ⟨g8, 0, none⟩) 2 2]) := ((HBQ.out.set 0 (.int .i64 1)).set 1 (.slice none 0 0)).set 2 (.slice (some ⟨g8, 0, none⟩) 2 2)
  have HXT : Hid (TwoS w.heap.size (((w8.setCell ⟨xb, 0, none⟩ (.int .i64 1)).setCell ⟨xb, 1, none⟩ (.slice none 0 0)).setCell ⟨xb, 2, none⟩ (.slice (some ⟨g8, 0, none⟩) 2 2)) g8 aa8 bb8) := ((ST.base K7.size).turns tx (by omega))
  have KX : Kept w (((w8.setCell ⟨xb, 0, none⟩ (.int .i64 1)).setCell ⟨xb, 1, none⟩ (.slice none 0 0)).setCell ⟨xb, 2, none⟩ (.slice (some ⟨g8, 0, none⟩) 2 2)) := tx.kept (K7.trans KT) (fun i hi => by have := HBQ.out.lt.1; omega)
  have HSX : Hid (TwoS w.heap.size (((w8.setCell ⟨xb, 0, none⟩ (.int .i64 1)).setCell ⟨xb, 1, none⟩ (.slice none 0 0)).setCell ⟨xb, 2, none⟩ (.slice (some ⟨g8, 0, none⟩) 2 2)) g1 a1 b1) := (HS7.out.kept KT).turns tx (by omega)
  have HSBX : Hid (Box w.heap.size (((w8.setCell ⟨xb, 0, none⟩ (.int .i64 1)).setCell ⟨xb, 1, none⟩ (.slice none 0 0)).setCell ⟨xb, 2, none⟩ (.slice (some ⟨g8, 0, none⟩) 2 2)) 58 sb [.int .i64 1, .slice none 0 0, .slice (some ⟨g1, 0, none⟩) 2 2]) := (HSB7.out.kept KT).turns tx (by omega)
  have tm := turn_set (((w8.setCell ⟨xb, 0, none⟩ (.int .i64 1)).setCell ⟨xb, 1, none⟩ (.slice none 0 0)).setCell ⟨xb, 2, none⟩ (.slice (some ⟨g8, 0, none⟩) 2 2)) g8 7 (.int .i64 21)
  have HBF : Hid (Box w.heap.size ((((w8.setCell ⟨xb, 0, none⟩ (.int .i64 1)).setCell ⟨xb, 1, none⟩ (.slice none 0 0)).setCell ⟨xb, 2, none⟩ (.slice (some ⟨g8, 0, none⟩) 2 2)).setCell ⟨g8, 7, none⟩ (.int .i64 21)) 58 xb [.int .i64 1, .slice none 0 0, .slice (some ⟨g8, 0, none⟩) 2 2]) := HBE.out.turns tm (by omega)
  have yc : (((w8.setCell ⟨xb, 0, none⟩ (.int .i64 1)).setCell ⟨xb, 1, none⟩ (.slice none 0 0)).setCell ⟨xb, 2, none⟩ (.slice (some ⟨g8, 0, none⟩) 2 2)).cell? ⟨g8, 7, none⟩ = some (.int .i64 20) := HXT.out.bx.cell 7 (by simp)
  have yf : (((w8.setCell ⟨xb, 0, none⟩ (.int .i64 1)).setCell ⟨xb, 1, none⟩ (.slice none 0 0)).setCell ⟨xb, 2, none⟩ (.slice (some ⟨g8, 0, none⟩) 2 2)).frozen? ⟨g8, 7, none⟩ = false := HXT.out.bx.frozen 7
  have KE : Kept w ((((w8.setCell ⟨xb, 0, none⟩ (.int .i64 1)).setCell ⟨xb, 1, none⟩ (.slice none 0 0)).setCell ⟨xb, 2, none⟩ (.slice (some ⟨g8, 0, none⟩) 2 2)).setCell ⟨g8, 7, none⟩ (.int .i64 21)) := tm.kept KX (fun i hi => by have := K7.size; omega)
  have z2 : (((w8.setCell ⟨xb, 0, none⟩ (.int .i64 1)).setCell ⟨xb, 1, none⟩ (.slice none 0 0)).setCell ⟨xb, 2, none⟩ (.slice (some ⟨g8, 0, none⟩) 2 2)).cell? ⟨xb, 2, none⟩ = some (.slice (some ⟨g8, 0, none⟩) 2 2) := HBE.out.cell 2 (by simp)
  have q0 : ((((w8.setCell ⟨xb, 0, none⟩ (.int .i64 1)).setCell ⟨xb, 1, none⟩ (.slice none 0 0)).setCell ⟨xb, 2, none⟩ (.slice (some ⟨g8, 0, none⟩) 2 2)).setCell ⟨g8, 7, none⟩ (.int .i64 21)).cell? ⟨xb, 0, none⟩ = some (.int .i64 1) := HBF.out.cell 0 (by simp)
  have q1 : ((((w8.setCell ⟨xb, 0, none⟩ (.int .i64 1)).setCell ⟨xb, 1, none⟩ (.slice none 0 0)).setCell ⟨xb, 2, none⟩ (.slice (some ⟨g8, 0, none⟩) 2 2)).setCell ⟨g8, 7, none⟩ (.int .i64 21)).cell? ⟨xb, 1, none⟩ = some (.slice none 0 0) := HBF.out.cell 1 (by simp)
  have q2 : ((((w8.setCell ⟨xb, 0, none⟩ (.int .i64 1)).setCell ⟨xb, 1, none⟩ (.slice none 0 0)).setCell ⟨xb, 2, none⟩ (.slice (some ⟨g8, 0, none⟩) 2 2)).setCell ⟨g8, 7, none⟩ (.int .i64 21)).cell? ⟨xb, 2, none⟩ = some (.slice (some ⟨g8, 0, none⟩) 2 2) := HBF.out.cell 2 (by simp)
  have HSE : Hid (TwoS w.heap.size ((((w8.setCell ⟨xb, 0, none⟩ (.int .i64 1)).setCell ⟨xb, 1, none⟩ (.slice none 0 0)).setCell ⟨xb, 2, none⟩ (.slice (some ⟨g8, 0, none⟩) 2 2)).setCell ⟨g8, 7, none⟩ (.int .i64 21)) g1 a1 b1) := HSX.out.turns tm (by omega)
  have HSBE : Hid (Box w.heap.size ((((w8.setCell ⟨xb, 0, none⟩ (.int .i64 1)).setCell ⟨xb, 1, none⟩ (.slice none 0 0)).setCell ⟨xb, 2, none⟩ (.slice (some ⟨g8, 0, none⟩) 2 2)).setCell ⟨g8, 7, none⟩ (.int .i64 21)) 58 sb [.int .i64 1, .slice none 0 0, .slice (some ⟨g1, 0, none⟩) 2 2]) := HSBX.out.turns tm (by omega)
  have hck := scheck_any 1 none (some ⟨g8, 0, none⟩) 0 2 [] twX2 _ (HR.out.kept KE) (AtH.nil _ _) (HXT.out.set2) tw_ok2 (by decide) (by decide)
  rw [tw_c2, show ([] : List ChanD).length = 0 from rfl, show (twX2 : List TaskD).length = 2 from rfl] at hck
  clear HXT
  go_wp2_with fail
  refine hck.mono ?_
  rintro e w9 ⟨rfl, t9⟩
  have K9 := KE.trans t9
  have HSB9 : Hid (Box w.heap.size w9 58 sb [.int .i64 1, .slice none 0 0, .slice (some ⟨g1, 0, none⟩) 2 2]) := HSBE.out.kept t9
  have HS9 : Hid (TwoS w.heap.size w9 g1 a1 b1) := HSE.out.kept t9
  have HXB9 : Hid (Box w.heap.size w9 58 xb [.int .i64 1, .slice none 0 0, .slice (some ⟨g8, 0, none⟩) 2 2]) := HBF.out.kept t9
  have hx9 : sb < xb ∧ xb < w9.heap.size := ⟨hx7.1, HXB9.out.lt.2⟩
  have HXBp : Hid (∃ L gq, Box w.heap.size w9 58 xb [.int .i64 L, .slice none 0 0, .slice (some ⟨gq, 0, none⟩) 2 2]) := ⟨_, _, HXB9.out⟩
  clear HXB9
  clear hck HSE HSBE q0 q1 q2 KE tm HBF HSX HSBX KX HBE tx c0 c1 c2 f0 f1 f2 lo hi ne HBQ KT ST HS7 HSB7 K7 hx7 yc yf z2 t9
  go_wp2_with fail
  refine (two_ex w9).mono ?_
  rintro e w10 ⟨g10, aa10, bb10, rfl, KT, ST⟩
  obtain ⟨Lq, gq, hbq⟩ := HXBp.out
  have HBQ : Hid (Box w.heap.size w10 58 xb [.int .i64 Lq, .slice none 0 0, .slice (some ⟨gq, 0, none⟩) 2 2]) := hbq.kept KT
  clear hbq HXBp
  have c0 : w10.cell? ⟨xb, 0, none⟩ = some (.int .i64 Lq) := HBQ.out.cell 0 (by simp)
  have c1 : w10.cell? ⟨xb, 1, none⟩ = some (.slice none 0 0) := HBQ.out.cell 1 (by simp)
  have c2 : w10.cell? ⟨xb, 2, none⟩ = some (.slice (some ⟨gq, 0, none⟩) 2 2) := HBQ.out.cell 2 (by simp)
  have f0 := HBQ.out.frozen 0
  have f1 := HBQ.out.frozen 1
  have f2 := HBQ.out.frozen 2
  have lo := ST.lo
  have hi := ST.hi
  have ne := ST.ne
  have tx : Turns (fun k => k = xb) w10 (((w10.setCell ⟨xb, 0, none⟩ (.int .i64 1)).setCell ⟨xb, 1, none⟩ (.slice none 0 0)).setCell ⟨xb, 2, none⟩ (.slice (some ⟨g10, 0, none⟩) 2 2)) := ((turn_set w10 xb 0 (.int .i64 1)).setCell (p := ⟨xb, 1, none⟩) rfl _).setCell (p := ⟨xb, 2, none⟩) rfl _
  have HBE : Hid (Box w.heap.size (((w10.setCell ⟨xb, 0, none⟩ (.int .i64 1)).setCell ⟨xb, 1, none⟩ (.slice none 0 0)).setCell ⟨xb, 2, none⟩ (.slice (some ⟨g10, 0, none⟩) 2 2)) 58 xb [.int .i64 1, .slice none 0 0, .slice (some ⟨g10, 0, none⟩) 2 2]) := ((HBQ.out.set 0 (.int .i64 1)).set 1 (.slice none 0 0)).set 2 (.slice (some ⟨g10, 0, none⟩) 2 2)
  have HXT : Hid (TwoS w.heap.size (((w10.setCell ⟨xb, 0, none⟩ (.int .i64 1)).setCell ⟨xb, 1, none⟩ (.slice none 0 0)).setCell ⟨xb, 2, none⟩ (.slice (some ⟨g10, 0, none⟩) 2 2)) g10 aa10 bb10) := ((ST.base K9.size).turns tx (by omega))
  have KX : Kept w (((w10.setCell ⟨xb, 0, none⟩ (.int .i64 1)).setCell ⟨xb, 1, none⟩ (.slice none 0 0)).setCell ⟨xb, 2, none⟩ (.slice (some ⟨g10, 0, none⟩) 2 2)) := tx.kept (K9.trans KT) (fun i hi => by have := HBQ.out.lt.1; omega)
  have HSX : Hid (TwoS w.heap.size (((w10.setCell ⟨xb, 0, none⟩ (.int .i64 1)).setCell ⟨xb, 1, none⟩ (.slice none 0 0)).setCell ⟨xb, 2, none⟩ (.slice (some ⟨g10, 0, none⟩) 2 2)) g1 a1 b1) := (HS9.out.kept KT).turns tx (by omega)
  have HSBX : Hid (Box w.heap.size (((w10.setCell ⟨xb, 0, none⟩ (.int .i64 1)).setCell ⟨xb, 1, none⟩ (.slice none 0 0)).setCell ⟨xb, 2, none⟩ (.slice (some ⟨g10, 0, none⟩) 2 2)) 58 sb [.int .i64 1, .slice none 0 0, .slice (some ⟨g1, 0, none⟩) 2 2]) := (HSB9.out.kept KT).turns tx (by omega)
  have tm := turn_set (((w10.setCell ⟨xb, 0, none⟩ (.int .i64 1)).setCell ⟨xb, 1, none⟩ (.slice none 0 0)).setCell ⟨xb, 2, none⟩ (.slice (some ⟨g10, 0, none⟩) 2 2)) g10 4 (.slice none 0 0)
  have HBF : Hid (Box w.heap.size ((((w10.setCell ⟨xb, 0, none⟩ (.int .i64 1)).setCell ⟨xb, 1, none⟩ (.slice none 0 0)).setCell ⟨xb, 2, none⟩ (.slice (some ⟨g10, 0, none⟩) 2 2)).setCell ⟨g10, 4, none⟩ (.slice none 0 0)) 58 xb [.int .i64 1, .slice none 0 0, .slice (some ⟨g10, 0, none⟩) 2 2]) := HBE.out.turns tm (by omega)
  have yc : (((w10.setCell ⟨xb, 0, none⟩ (.int .i64 1)).setCell ⟨xb, 1, none⟩ (.slice none 0 0)).setCell ⟨xb, 2, none⟩ (.slice (some ⟨g10, 0, none⟩) 2 2)).cell? ⟨g10, 4, none⟩ = some (.slice (some ⟨aa10, 0, none⟩) 4 4) := HXT.out.bx.cell 4 (by simp)
  have yf : (((w10.setCell ⟨xb, 0, none⟩ (.int .i64 1)).setCell ⟨xb, 1, none⟩ (.slice none 0 0)).setCell ⟨xb, 2, none⟩ (.slice (some ⟨g10, 0, none⟩) 2 2)).frozen? ⟨g10, 4, none⟩ = false := HXT.out.bx.frozen 4
  have KE : Kept w ((((w10.setCell ⟨xb, 0, none⟩ (.int .i64 1)).setCell ⟨xb, 1, none⟩ (.slice none 0 0)).setCell ⟨xb, 2, none⟩ (.slice (some ⟨g10, 0, none⟩) 2 2)).setCell ⟨g10, 4, none⟩ (.slice none 0 0)) := tm.kept KX (fun i hi => by have := K9.size; omega)
  have z2 : (((w10.setCell ⟨xb, 0, none⟩ (.int .i64 1)).setCell ⟨xb, 1, none⟩ (.slice none 0 0)).setCell ⟨xb, 2, none⟩ (.slice (some ⟨g10, 0, none⟩) 2 2)).cell? ⟨xb, 2, none⟩ = some (.slice (some ⟨g10, 0, none⟩) 2 2) := HBE.out.cell 2 (by simp)
  have q0 : ((((w10.setCell ⟨xb, 0, none⟩ (.int .i64 1)).setCell ⟨xb, 1, none⟩ (.slice none 0 0)).setCell ⟨xb, 2, none⟩ (.slice (some ⟨g10, 0, none⟩) 2 2)).setCell ⟨g10, 4, none⟩ (.slice none 0 0)).cell? ⟨xb, 0, none⟩ = some (.int .i64 1) := HBF.out.cell 0 (by simp)
  have q1 : ((((w10.setCell ⟨xb, 0, none⟩ (.int .i64 1)).setCell ⟨xb, 1, none⟩ (.slice none 0 0)).setCell ⟨xb, 2, none⟩ (.slice (some ⟨g10, 0, none⟩) 2 2)).setCell ⟨g10, 4, none⟩ (.slice none 0 0)).cell? ⟨xb, 1, none⟩ = some (.slice none 0 0) := HBF.out.cell 1 (by simp)
  have q2 : ((((w10.setCell ⟨xb, 0, none⟩ (.int .i64 1)).setCell ⟨xb, 1, none⟩ (.slice none 0 0)).setCell ⟨xb, 2, none⟩ (.slice (some ⟨g10, 0, none⟩) 2 2)).setCell ⟨g10, 4, none⟩ (.slice none 0 0)).cell? ⟨xb, 2, none⟩ = some (.slice (some ⟨g10, 0, none⟩) 2 2) := HBF.out.cell 2 (by simp)
  have HSE : Hid (TwoS w.heap.size ((((w10.setCell ⟨xb, 0, none⟩ (.int .i64 1)).setCell ⟨xb, 1, none⟩ (.slice none 0 0)).setCell ⟨xb, 2, none⟩ (.slice (some ⟨g10, 0, none⟩) 2 2)).setCell ⟨g10, 4, none⟩ (.slice none 0 0)) g1 a1 b1) := HSX.out.turns tm (by omega)
  have HSBE : Hid (Box w.heap.size ((((w10.setCell ⟨xb, 0, none⟩ (.int .i64 1)).setCell ⟨xb, 1, none⟩ (.slice none 0 0)).setCell ⟨xb, 2, none⟩ (.slice (some ⟨g10, 0, none⟩) 2 2)).setCell ⟨g10, 4, none⟩ (.slice none 0 0)) 58 sb [.int .i64 1, .slice none 0 0, .slice (some ⟨g1, 0, none⟩) 2 2]) := HSBX.out.turns tm (by omega)
  have hck := scheck_any 1 none (some ⟨g10, 0, none⟩) 0 2 [] twX3 _ (HR.out.kept KE) (AtH.nil _ _) (HXT.out.set3) tw_ok3 (by decide) (by decide)
  rw [tw_c3, show ([] : List ChanD).length = 0 from rfl, show (twX3 : List TaskD).length = 2 from rfl] at hck
  have HX3T : Hid (AtT ((((w10.setCell ⟨xb, 0, none⟩ (.int .i64 1)).setCell ⟨xb, 1, none⟩ (.slice none 0 0)).setCell ⟨xb, 2, none⟩ (.slice (some ⟨g10, 0, none⟩) 2 2)).setCell ⟨g10, 4, none⟩ (.slice none 0 0)) (some ⟨g10, 0, none⟩) twX3) := HXT.out.set3
  clear HXT
  go_wp2_with fail
  refine hck.mono ?_
  rintro e w11 ⟨rfl, t11⟩
  have K11 := KE.trans t11
  have HSB11 : Hid (Box w.heap.size w11 58 sb [.int .i64 1, .slice none 0 0, .slice (some ⟨g1, 0, none⟩) 2 2]) := HSBE.out.kept t11
  have HS11 : Hid (TwoS w.heap.size w11 g1 a1 b1) := HSE.out.kept t11
  have HXB11 : Hid (Box w.heap.size w11 58 xb [.int .i64 1, .slice none 0 0, .slice (some ⟨g10, 0, none⟩) 2 2]) := HBF.out.kept t11
  have hx11 : sb < xb ∧ xb < w11.heap.size := ⟨hx9.1, HXB11.out.lt.2⟩
  have HTX : Hid (AtT w11 (some ⟨g10, 0, none⟩) twX3) := HX3T.out.kept t11
  clear hck HSE HSBE q0 q1 q2 KE tm HBF HSX HSBX KX HBE tx c0 c1 c2 f0 f1 f2 lo hi ne HBQ KT ST HS9 HSB9 K9 hx9 yc yf z2 t11
  have s0 : w11.cell? ⟨sb, 0, none⟩ = some (.int .i64 1) := HSB11.out.cell 0 (by simp)
  have s1 : w11.cell? ⟨sb, 1, none⟩ = some (.slice none 0 0) := HSB11.out.cell 1 (by simp)
  have s2 : w11.cell? ⟨sb, 2, none⟩ = some (.slice (some ⟨g1, 0, none⟩) 2 2) := HSB11.out.cell 2 (by simp)
  have hf1 := find_any 1 none (some ⟨g1, 0, none⟩) 0 2 0 [twA, twBB] slowW w11 HS11.out.tasks (by decide)
  rw [tw_f1, show ([twA, twBB] : List TaskD).length = 2 from rfl] at hf1
  go_wp2_with fail
  refine hf1.mono ?_
  rintro e w12 ⟨rfl, t12⟩
  have r0 := t12.cell s0
  have r1 := t12.cell s1
  have r2 := t12.cell s2
  have hf2 := find_any 1 none (some ⟨g1, 0, none⟩) 0 2 0 [twA, twBB] slowerW w12 (HS11.out.kept t12).tasks (by decide)
  rw [tw_f2, show ([twA, twBB] : List TaskD).length = 2 from rfl] at hf2
  clear hf1 s0 s1 s2
  go_wp2_with fail
  refine hf2.mono ?_
  rintro e w13 ⟨rfl, t13⟩
  have T13 := t12.trans t13
  have K13 := K11.trans T13
  have he := scheck_any 0 none none 0 0 [] [] w13 (HR.out.kept K13) (AtH.nil _ _) (AtT.nil _ _) (fun t ht => by cases ht) (by decide) (by decide)
  rw [tw_c4, show ([] : List ChanD).length = 0 from rfl, show ([] : List TaskD).length = 0 from rfl] at he
  clear hf2 r0 r1 r2
  go_wp2_with fail
  refine he.mono ?_
  rintro e w14 ⟨rfl, t14⟩
  have T14 := T13.trans t14
  have K14 := K13.trans t14
  have HS14 : Hid (TwoS w.heap.size w14 g1 a1 b1) := HS11.out.kept T14
  have HSB14 := HSB11.out.kept T14
  have s0 : w14.cell? ⟨sb, 0, none⟩ = some (.int .i64 1) := HSB14.cell 0 (by simp)
  have s1 : w14.cell? ⟨sb, 1, none⟩ = some (.slice none 0 0) := HSB14.cell 1 (by simp)
  have s2 : w14.cell? ⟨sb, 2, none⟩ = some (.slice (some ⟨g1, 0, none⟩) 2 2) := HSB14.cell 2 (by simp)
  have y0 : w14.cell? ⟨g1, 5, none⟩ = some (.string (B slowW)) := HS14.out.bx.cell 5 (by simp)
  have y1 : w14.cell? ⟨g1, 6, none⟩ = some (.int .i64 20) := HS14.out.bx.cell 6 (by simp)
  have y2 : w14.cell? ⟨g1, 7, none⟩ = some (.int .i64 20) := HS14.out.bx.cell 7 (by simp)
  have y3 : w14.cell? ⟨g1, 8, none⟩ = some (.int .i64 6) := HS14.out.bx.cell 8 (by simp)
  have y4 : w14.cell? ⟨g1, 9, none⟩ = some (.slice (some ⟨b1, 0, none⟩) 4 4) := HS14.out.bx.cell 9 (by simp)
  have HXB14 := HXB11.out.kept T14
  have x0 : w14.cell? ⟨xb, 0, none⟩ = some (.int .i64 1) := HXB14.cell 0 (by simp)
  have x1 : w14.cell? ⟨xb, 1, none⟩ = some (.slice none 0 0) := HXB14.cell 1 (by simp)
  have x2 : w14.cell? ⟨xb, 2, none⟩ = some (.slice (some ⟨g10, 0, none⟩) 2 2) := HXB14.cell 2 (by simp)
  have HTX14 : Hid (AtT w14 (some ⟨g10, 0, none⟩) twX3) := HTX.out.kept T14
  have HNE : Hid (∀ w', Kept w14 w' → Calls Tryd.prog 38 #[.agg #[.string (B slowW), .int .i64 20, .int .i64 20, .int .i64 6, .slice (some ⟨b1, 0, none⟩) 4 4]] w' fun e w'' => e = .returned (.int .i64 5) ∧ Kept w' w'') := fun w' t => by
    have h := need_any slowW 20 20 6 twPB (some ⟨b1, 0, none⟩) 4 w' (HS14.out.kept t).pb tw_pb
    rw [tw_need, show twPB.length = 4 from rfl] at h
    exact h
  have HSS : Hid (∀ w' (Bd g6 a6 b6 : Nat), Kept w14 w' → TwoS Bd w' g6 a6 b6 → Calls Tryd.prog 34 #[.agg #[.int .i64 1, .slice none 0 0, .slice (some ⟨g1, 0, none⟩) 2 2], .agg #[.int .i64 1, .slice none 0 0, .slice (some ⟨g6, 0, none⟩) 2 2]] w' fun e w'' => e = .returned (.bool true) ∧ Kept w' w'') := fun w' Bd g6 a6 b6 t S6 => by
    have h := ssame_any 1 none none (some ⟨g1, 0, none⟩) (some ⟨g6, 0, none⟩) 0 0 2 2 [twA, twBB] [twA, twBB] w' (HS14.out.kept t).tasks S6.tasks (by decide) tw_ok0
    rw [tw_same, show ([twA, twBB] : List TaskD).length = 2 from rfl] at h
    exact h
  have HS3 : Hid (∀ w', Kept w14 w' → Calls Tryd.prog 34 #[.agg #[.int .i64 1, .slice none 0 0, .slice (some ⟨g1, 0, none⟩) 2 2], .agg #[.int .i64 1, .slice none 0 0, .slice (some ⟨g10, 0, none⟩) 2 2]] w' fun e w'' => e = .returned (.bool false) ∧ Kept w' w'') := fun w' t => by
    have h := ssame_any 1 none none (some ⟨g1, 0, none⟩) (some ⟨g10, 0, none⟩) 0 0 2 2 [twA, twBB] twX3 w' (HS14.out.kept t).tasks (HTX14.out.kept t) (by decide) tw_ok0
    rw [tw_same3, show ([twA, twBB] : List TaskD).length = 2 from rfl, show twX3.length = 2 from rfl] at h
    exact h
  have HWA : Hid (∀ w', Kept w14 w' → Calls Tryd.prog 36 #[.agg #[.int .i64 1, .slice none 0 0, .slice (some ⟨g1, 0, none⟩) 2 2]] w' fun e w'' => e = .returned (.bool false) ∧ Kept w' w'') := fun w' t => by
    have h := swaits_any 1 none (some ⟨g1, 0, none⟩) 0 2 0 [twA, twBB] w' (HR.out.kept (K14.trans t)) (HS14.out.kept t).tasks tw_ok0 (by decide)
    rw [tw_waits, show ([twA, twBB] : List TaskD).length = 2 from rfl] at h
    exact h
  clear he HSB14 HXB14 HTX14
  have KD : Kept w14 w14.drew := (Kept.refl w14).drew
  go_wp2_with fail
  simp only [List.append]
  go_region_held3 (fun w' => w'.cell? ⟨sb, 0, none⟩ = some (.int .i64 1) ∧ w'.cell? ⟨sb, 1, none⟩ = some (.slice none 0 0) ∧ w'.cell? ⟨sb, 2, none⟩ = some (.slice (some ⟨g1, 0, none⟩) 2 2) ∧ w'.cell? ⟨xb, 0, none⟩ = some (.int .i64 1) ∧ w'.cell? ⟨xb, 1, none⟩ = some (.slice none 0 0) ∧ w'.cell? ⟨xb, 2, none⟩ = some (.slice (some ⟨g10, 0, none⟩) 2 2) ∧ w'.cell? ⟨g1, 5, none⟩ = some (.string (B slowW)) ∧ w'.cell? ⟨g1, 6, none⟩ = some (.int .i64 20) ∧ w'.cell? ⟨g1, 7, none⟩ = some (.int .i64 20) ∧ w'.cell? ⟨g1, 8, none⟩ = some (.int .i64 6) ∧ w'.cell? ⟨g1, 9, none⟩ = some (.slice (some ⟨b1, 0, none⟩) 4 4)) (go_keep) (first | (go_at_call 38; refine (HNE.out _ KD).mono ?_; rintro e w15 ⟨rfl, t15⟩; have T15 := KD.trans t15; have s0_15 := T15.cell s0; have s1_15 := T15.cell s1; have s2_15 := T15.cell s2; have x0_15 := T15.cell x0; have x1_15 := T15.cell x1; have x2_15 := T15.cell x2; have y0_15 := T15.cell y0; have y1_15 := T15.cell y1; have y2_15 := T15.cell y2; have y3_15 := T15.cell y3; have y4_15 := T15.cell y4) | (go_at_call 56; refine (two_ex w15).mono ?_; rintro e w16 ⟨g6, a6, b6, rfl, t16, S6⟩; have T16 := T15.trans t16; have s0_16 := T16.cell s0; have s1_16 := T16.cell s1; have s2_16 := T16.cell s2; have x0_16 := T16.cell x0; have x1_16 := T16.cell x1; have x2_16 := T16.cell x2; have y0_16 := T16.cell y0; have y1_16 := T16.cell y1; have y2_16 := T16.cell y2; have y3_16 := T16.cell y3; have y4_16 := T16.cell y4) | (go_at_call 34; refine (HS3.out _ T17).mono ?_; rintro e w18 ⟨rfl, t18⟩; have T18 := T17.trans t18; have s0_18 := T18.cell s0; have s1_18 := T18.cell s1; have s2_18 := T18.cell s2; have x0_18 := T18.cell x0; have x1_18 := T18.cell x1; have x2_18 := T18.cell x2; have y0_18 := T18.cell y0; have y1_18 := T18.cell y1; have y2_18 := T18.cell y2; have y3_18 := T18.cell y3; have y4_18 := T18.cell y4) | (go_at_call 34; refine (HSS.out _ _ _ _ _ T16 S6).mono ?_; rintro e w17 ⟨rfl, t17⟩; have T17 := T16.trans t17; have s0_17 := T17.cell s0; have s1_17 := T17.cell s1; have s2_17 := T17.cell s2; have x0_17 := T17.cell x0; have x1_17 := T17.cell x1; have x2_17 := T17.cell x2; have y0_17 := T17.cell y0; have y1_17 := T17.cell y1; have y2_17 := T17.cell y2; have y3_17 := T17.cell y3; have y4_17 := T17.cell y4) | (go_at_call 36; refine (HWA.out _ T18).mono ?_; rintro e w19 ⟨rfl, t19⟩; have T19 := T18.trans t19; have s0_19 := T19.cell s0; have s1_19 := T19.cell s1; have s2_19 := T19.cell s2; have x0_19 := T19.cell x0; have x1_19 := T19.cell x1; have x2_19 := T19.cell x2; have y0_19 := T19.cell y0; have y1_19 := T19.cell y1; have y2_19 := T19.cell y2; have y3_19 := T19.cell y3; have y4_19 := T19.cell y4) | fail)
  go_wp2_with fail
  go_ret
  exact ⟨rfl, K14.trans T19⟩
end Go.Proofs.YtolljdomnohmdaaDoor

/- The reader: a line more. -/
import Derived.Test.YtolljdomnohmdabGreatDoorM18
import Derived.Test.YtolljdomnohmdabGreatDoorM13
namespace Go.Proofs.YtolljdomnohmdabGreatDoor
open Go.RowKit Go.Shelf

structure RInv (s : RdD) : Prop where
  cs : s.cs.length ≤ 8
  ts : s.ts.length ≤ 12
  lp : (lastP s.ts).length ≤ 48
theorem may_chan {s : RdD} (h : mayB s chanW = true) : s.ts = [] := by
  unfold mayB at h
  split at h
  · exact absurd h (by decide)
  · rw [if_pos rfl] at h
    exact List.isEmpty_iff.1 h
theorem may_op {s : RdD} {x : List UInt8} (h : mayB s x = true) (h0 : x ≠ locksW) (h1 : x ≠ chanW) (h2 : x ≠ taskW) : 0 < s.ts.length := by
  unfold mayB at h
  split at h
  · exact absurd (eq_of_beq h) h0
  · simp only [Bool.and_eq_true] at h
    cases hts : s.ts with
    | nil => rw [hts] at h; exact absurd h.2 (by decide)
    | cons a b => simp
theorem may_nil (s : RdD) : mayB s [] = false := by
  unfold mayB
  split
  · decide
  · rw [if_neg (by decide), if_neg (by decide)]
    rfl
theorem add_none {s : RdD} {line : List UInt8} (h : splitOf line = none) : addD s line = (s, 2) := by unfold addD; rw [h]
theorem add_some {s : RdD} {line : List UInt8} {ws : List (List UInt8)} (h : splitOf line = some ws) : addD s line = if mayB s (ws.headD []) = false then (s, 2) else if fullB s (ws.headD []) = true then (s, 4) else
    if ws.headD [] = locksW then addLocksD s ws else if ws.headD [] = chanW then addChanD s ws else if ws.headD [] = taskW then addTaskD s ws else addOpD s line := by unfold addD; rw [h]
theorem locks_inv {s : RdD} {ws : List (List UInt8)} (h : RInv s) (h0 : (addLocksD s ws).2 = 0) : RInv (addLocksD s ws).1 := by
  unfold addLocksD at h0 ⊢
  split at h0
  · split at h0
    · rename_i h1; simp only [h1, if_pos]; exact ⟨h.cs, h.ts, h.lp⟩
    · rename_i h1; exact absurd h0 h1
  · cases h0
theorem chan_inv {s : RdD} {ws : List (List UInt8)} (h : RInv s) (hf : s.cs.length ≠ 8) (h0 : (addChanD s ws).2 = 0) : RInv (addChanD s ws).1 := by
  have hc := h.cs
  unfold addChanD at h0 ⊢
  split at h0
  · split at h0
    · rename_i h1
      split at h0
      · rename_i h2
        rw [if_pos h1, if_pos h2]
        exact ⟨by simp only [List.length_append, List.length_singleton]; omega, h.ts, h.lp⟩
      · rename_i h2; exact absurd h0 h2
    · rename_i h1; exact absurd h0 h1
  · cases h0
theorem task_inv {s : RdD} {ws : List (List UInt8)} (h : RInv s) (hf : s.ts.length ≠ 12) (h0 : (addTaskD s ws).2 = 0) : RInv (addTaskD s ws).1 := by
  have hc := h.ts
  unfold addTaskD at h0 ⊢
  split at h0
  · split at h0
    · rename_i h1
      split at h0
      · rename_i h2
        split at h0
        · rename_i h3
          rw [if_pos h1, if_pos h2, if_pos h3]
          refine ⟨h.cs, by simp only [List.length_append, List.length_singleton]; omega, ?_⟩
          show (lastP (s.ts ++ [_])).length ≤ 48
          rw [lastP_app]
          simp
        · rename_i h3; exact absurd h0 h3
      · rename_i h2; exact absurd h0 h2
    · rename_i h1; exact absurd h0 h1
  · cases h0
theorem op_inv {s : RdD} {line : List UInt8} (h : RInv s) {ts : List TaskD} {t : TaskD} (hts : s.ts = ts ++ [t]) (hf : (lastP s.ts).length ≠ 48) (h0 : (addOpD s line).2 = 0) : RInv (addOpD s line).1 := by
  have hl := h.lp
  have ht := h.ts
  unfold addOpD at h0 ⊢
  split at h0
  · rename_i h1
    rw [if_pos h1]
    refine ⟨h.cs, ?_, ?_⟩
    · show (putOp s.ts _).length ≤ 12
      rw [hts, putOp_app]
      rw [hts] at ht
      simpa using ht
    · show (lastP (putOp s.ts _)).length ≤ 48
      rw [hts, putOp_app, lastP_app]
      rw [hts, lastP_app] at hl hf
      simp only [List.length_append, List.length_singleton]
      omega
  · rename_i h1; exact absurd h0 h1
theorem full_chan {s : RdD} (h : fullB s chanW = false) : s.cs.length ≠ 8 := by
  unfold fullB at h
  rw [if_neg (by decide), if_pos rfl] at h
  simpa using h
theorem full_task {s : RdD} (h : fullB s taskW = false) : s.ts.length ≠ 12 := by
  unfold fullB at h
  rw [if_neg (by decide), if_neg (by decide), if_pos rfl] at h
  simpa using h
theorem full_op {s : RdD} {x : List UInt8} (h0 : x ≠ locksW) (h1 : x ≠ chanW) (h2 : x ≠ taskW) (h : fullB s x = false) : (lastP s.ts).length ≠ 48 := by
  unfold fullB at h
  rw [if_neg h0, if_neg h1, if_neg h2] at h
  simpa using h
/-- What has been read stays within its bounds. -/
theorem add_inv {s : RdD} {line : List UInt8} (h : RInv s) (h0 : (addD s line).2 = 0) : RInv (addD s line).1 := by
  cases hs : splitOf line with
  | none => rw [add_none hs] at h0; cases h0
  | some ws =>
    rw [add_some hs] at h0 ⊢
    split at h0
    · cases h0
    · rename_i hm
      rw [if_neg hm]
      split at h0
      · cases h0
      · rename_i hf
        rw [if_neg hf]
        have hm' : mayB s (ws.headD []) = true := by simpa using hm
        have hf' : fullB s (ws.headD []) = false := by simpa using hf
        split at h0
        · rename_i e; rw [if_pos e]; exact locks_inv h h0
        · rename_i e0
          rw [if_neg e0]
          split at h0
          · rename_i e; rw [if_pos e]; rw [e] at hf'; exact chan_inv h (full_chan hf') h0
          · rename_i e1
            rw [if_neg e1]
            split at h0
            · rename_i e; rw [if_pos e]; rw [e] at hf'; exact task_inv h (full_task hf') h0
            · rename_i e2
              rw [if_neg e2]
              obtain ⟨ts, t, hts⟩ := last_split s.ts (may_op hm' e0 e1 e2)
              exact op_inv h hts (full_op e0 e1 e2 hf') h0
set_option maxHeartbeats 8000000 in
set_option maxRecDepth 20000 in
theorem add_any (w0 : World) (rb : Nat) (s : RdD) (line : List UInt8) (w : World) (hr : Rdy w) (K0 : Kept w0 w) (hl : line.length ≤ 1000) (hS : RSx w0 rb w s) (hI : RInv s) :
    Calls Tryz.prog 29 #[.pointer (some ⟨rb, 0, none⟩), .string (B line)] w fun e w' => e = .returned (.int .i64 (addD s line).2) ∧ Kept w0 w' ∧ RSx w0 rb w' (addD s line).1 := by
  have HS : Hid (RSx w0 rb w s) := hS
  have HR : Hid (Rdy w) := hr
  have HI : Hid (RInv s) := hI
  have hsp := split_any line (by omega) w hr
  clear hr hS hI
  cases hso : splitOf line with
  | none =>
    rw [hso, show splitE none = 2 from rfl] at hsp
    have HW : Hid (addD s line = (s, 2)) := add_none hso
    clear hso
    go_enter Tryz.func29, Tryz.ntmps29
    go_wp2_with fail
    refine hsp.mono ?_
    rintro e w1 ⟨v1, rfl, r1, K1⟩
    clear r1 hsp
    go_wp2_with fail
    go_ret
    rw [HW.out]
    exact ⟨rfl, K0.trans K1, HS.out.kept K1⟩
  | some ws =>
    rw [hso, show splitE (some ws) = 0 from rfl, show splitR (some ws) = ws from rfl] at hsp
    have HWX : Hid (∀ x ∈ ws, x.length ≤ 1000) := fun x hx => Nat.le_trans (splitOf_mem hso x hx) hl
    have hwl := splitOf_len hso
    have HD := add_some (s := s) hso
    clear hso
    cases ws with
    | nil =>
      rw [show ([] : List (List UInt8)).headD [] = [] from rfl, if_pos (may_nil s)] at HD
      have HW : Hid (addD s line = (s, 2)) := HD
      clear HD
      go_enter Tryz.func29, Tryz.ntmps29
      go_wp2_with fail
      refine hsp.mono ?_
      rintro e w1 ⟨v1, rfl, r1, K1⟩
      obtain ⟨a1, c1, hv1, hcap, hat1⟩ := StrRow.view r1
      subst hv1
      obtain ⟨hv, tv, pvs, Bp, R0⟩ := HS.out
      have R1 := R0.kept K1
      obtain ⟨ha, hc, ta, tc, e1, e2, _, _⟩ := R1.view
      have z1 : w1.cell? ⟨rb, 3, none⟩ = some (.bool s.bg) := R1.box.cell 3 (by simp)
      have z2 : w1.cell? ⟨rb, 2, none⟩ = some (.slice ta s.ts.length tc) := by rw [← e2]; exact R1.box.cell 2 (by simp)
      have hm := may_any rb s [] ta tc w1 z1 z2
      rw [may_nil, show B [] = ⟨#[]⟩ from rfl] at hm
      clear r1 hsp R0 R1 z1 z2 e1 e2 hat1
      go_wp2_with fail
      refine hm.mono ?_
      rintro e w2 ⟨rfl, K2⟩
      clear hm
      go_wp2_with fail
      go_ret
      rw [HW.out]
      exact ⟨rfl, (K0.trans K1).trans K2, (HS.out.kept K1).kept K2⟩
    | cons x r =>
      rw [show (x :: r).headD [] = x from rfl] at HD
      have HDD : Hid (addD s line = if mayB s x = false then (s, 2) else if fullB s x = true then (s, 4) else if x = locksW then addLocksD s (x :: r) else if x = chanW then addChanD s (x :: r) else if x = taskW then addTaskD s (x :: r) else addOpD s line) := HD
      clear HD
      obtain ⟨n, hn⟩ : ∃ n, (x :: r).length = n := ⟨_, rfl⟩
      have hn1 : (0 : Int) < (n : Int) := by rw [← hn]; simp only [List.length_cons]; omega
      go_enter Tryz.func29, Tryz.ntmps29
      go_wp2_with fail
      refine hsp.mono ?_
      rintro e w1 ⟨v1, rfl, r1, K1⟩
      obtain ⟨a1, c1, hv1, hcap, hat1⟩ := StrRow.view r1
      subst hv1
      rw [hn] at hcap hat1
      rw [hn]
      have HAT : Hid (At w1 a1 n (x :: r)) := hat1
      obtain ⟨b0, f0, rfl, u0⟩ := hat1.word 0 x rfl
      rw [Nat.add_zero] at u0
      obtain ⟨hv, tv, pvs, Bp, R0⟩ := HS.out
      have R1 := R0.kept K1
      obtain ⟨ha, hc, ta, tc, e1, e2, _, _⟩ := R1.view
      have z1 : w1.cell? ⟨rb, 3, none⟩ = some (.bool s.bg) := R1.box.cell 3 (by simp)
      have z2 : w1.cell? ⟨rb, 2, none⟩ = some (.slice ta s.ts.length tc) := by rw [← e2]; exact R1.box.cell 2 (by simp)
      have z3 : w1.cell? ⟨rb, 1, none⟩ = some (.slice ha s.cs.length hc) := by rw [← e1]; exact R1.box.cell 1 (by simp)
      have hm := may_any rb s x ta tc w1 z1 z2
      have HS1 : Hid (RSx w0 rb w1 s) := HS.out.kept K1
      have KW1 := K0.trans K1
      have HR1 : Hid (Rdy w1) := HR.out.kept K1
      have HF : Hid (∀ w2, Kept w1 w2 → mayB s x = true → Calls Tryz.prog 46 #[.pointer (some ⟨rb, 0, none⟩), .string (B x)] w2 fun e w' => e = .returned (.bool (fullB s x)) ∧ Kept w2 w') := by
        intro w2 K2 hmy
        refine full_any rb s x ha ta hc tc w2 (K2.cell z3) (K2.cell z2) (fun h0 h1 h2 => ?_)
        obtain ⟨ts, t, hts⟩ := last_split s.ts (may_op hmy h0 h1 h2)
        obtain ⟨tb, tc', pr, pv, f1, f2, f3, f4, ⟨svs, f5⟩, _⟩ := (R1.kept K2).last_at ts t hts
        obtain ⟨pa, pc, g1, _⟩ := f5.view
        rw [e2] at f1
        refine ⟨tb, ts.length, pa, pc, by rw [hts]; simp, (Value.slice.inj f1).1, by have h1 := HI.out.ts; rw [hts] at h1; simp at h1; omega, ?_⟩
        rw [f4, g1, hts, lastP_app]
      obtain ⟨my, hmy⟩ : ∃ b, mayB s x = b := ⟨_, rfl⟩
      rw [hmy] at hm
      clear r1 hsp R0 R1 z1 z2 z3 e1 e2 hat1 HS HR
      go_wp2_with fail
      refine hm.mono ?_
      rintro e w2 ⟨rfl, K2⟩
      clear hm
      have HS2 : Hid (RSx w0 rb w2 s) := HS1.out.kept K2
      cases my with
      | false =>
        have HW : Hid (addD s line = (s, 2)) := by show _ = _; rw [HDD.out, if_pos hmy]
        go_wp2_with fail
        go_ret
        rw [HW.out]
        exact ⟨rfl, KW1.trans K2, HS2.out⟩
      | true =>
        have hf := HF.out w2 K2 hmy
        obtain ⟨fl, hfl⟩ : ∃ b, fullB s x = b := ⟨_, rfl⟩
        rw [hfl] at hf
        go_wp2_with fail
        refine hf.mono ?_
        rintro e w3 ⟨rfl, K3⟩
        clear hf HF
        have HS3 : Hid (RSx w0 rb w3 s) := HS2.out.kept K3
        have KW3 := (KW1.trans K2).trans K3
        have HR3 : Hid (Rdy w3) := (HR1.out.kept K2).kept K3
        have HA3 : Hid (At w3 (some ⟨b0, f0, none⟩) n (x :: r)) := (HAT.out.kept K2).kept K3
        clear HS1 HS2 HR1 HAT u0
        cases fl with
        | true =>
          have HW : Hid (addD s line = (s, 4)) := by show _ = _; rw [HDD.out, if_neg (by rw [hmy]; decide), if_pos hfl]
          go_wp2_with fail
          go_ret
          rw [HW.out]
          exact ⟨rfl, KW3, HS3.out⟩
        | false =>
          have HD2 : Hid (addD s line = if x = locksW then addLocksD s (x :: r) else if x = chanW then addChanD s (x :: r) else if x = taskW then addTaskD s (x :: r) else addOpD s line) := by show _ = _; rw [HDD.out, if_neg (by rw [hmy]; decide), if_neg (by rw [hfl]; decide)]
          clear HDD
          by_cases h0 : x = locksW
          · have e0 : ((B x).toList == [108, 111, 99, 107, 115]) = true := by rw [B_is, h0]; rfl
            have HW : Hid (addD s line = addLocksD s (x :: r)) := by show _ = _; rw [HD2.out, if_pos h0]
            have hcl := locks_any w0 rb s (x :: r) n c1 (some ⟨b0, f0, none⟩) w3 HR3.out KW3 hn.symm HA3.out HWX.out HS3.out
            clear h0 HD2
            go_wp2_with fail
            refine hcl.mono ?_
            rintro e w4 ⟨rfl, K4, S4⟩
            rw [← HW.out] at S4
            rw [← HW.out]
            have HS4 : Hid (RSx w0 rb w4 (addD s line).1) := S4
            clear hcl S4
            go_wp2_with fail
            go_ret
            exact ⟨rfl, K4, HS4.out⟩
          have e0 : ((B x).toList == [108, 111, 99, 107, 115]) = false := by rw [B_is]; simpa [locksW] using h0
          by_cases h1 : x = chanW
          · have e1 : ((B x).toList == [99, 104, 97, 110]) = true := by rw [B_is, h1]; rfl
            have HW : Hid (addD s line = addChanD s (x :: r)) := by show _ = _; rw [HD2.out, if_neg h0, if_pos h1]
            have hcl := chanAdd_any w0 rb s (x :: r) n c1 (some ⟨b0, f0, none⟩) w3 HR3.out KW3 hn.symm HA3.out HWX.out HS3.out (may_chan (by rw [← h1]; exact hmy)) (by have := HI.out.cs; omega)
            clear h0 h1 HD2
            go_wp2_with fail
            refine hcl.mono ?_
            rintro e w4 ⟨rfl, K4, S4⟩
            rw [← HW.out] at S4
            rw [← HW.out]
            have HS4 : Hid (RSx w0 rb w4 (addD s line).1) := S4
            clear hcl S4
            go_wp2_with fail
            go_ret
            exact ⟨rfl, K4, HS4.out⟩
          have e1 : ((B x).toList == [99, 104, 97, 110]) = false := by rw [B_is]; simpa [chanW] using h1
          by_cases h2 : x = taskW
          · have e2 : ((B x).toList == [116, 97, 115, 107]) = true := by rw [B_is, h2]; rfl
            have HW : Hid (addD s line = addTaskD s (x :: r)) := by show _ = _; rw [HD2.out, if_neg h0, if_neg h1, if_pos h2]
            have hcl := taskAdd_any w0 rb s (x :: r) n c1 (some ⟨b0, f0, none⟩) w3 HR3.out KW3 hn.symm hcap HA3.out HWX.out HS3.out (by have := HI.out.ts; omega)
            clear h0 h1 h2 HD2
            go_wp2_with fail
            refine hcl.mono ?_
            rintro e w4 ⟨rfl, K4, S4⟩
            rw [← HW.out] at S4
            rw [← HW.out]
            have HS4 : Hid (RSx w0 rb w4 (addD s line).1) := S4
            clear hcl S4
            go_wp2_with fail
            go_ret
            exact ⟨rfl, K4, HS4.out⟩
          have e2 : ((B x).toList == [116, 97, 115, 107]) = false := by rw [B_is]; simpa [taskW] using h2
          have HW : Hid (addD s line = addOpD s line) := by show _ = _; rw [HD2.out, if_neg h0, if_neg h1, if_neg h2]
          obtain ⟨ts, t, hts⟩ := last_split s.ts (may_op hmy h0 h1 h2)
          have hcl := opAdd_any w0 rb s line w3 HR3.out KW3 hl HS3.out ts t hts (by have h1 := HI.out.ts; rw [hts] at h1; simp at h1; omega) (by have h1 := HI.out.lp; rw [hts, lastP_app] at h1; omega)
          clear h0 h1 h2 HD2 hts
          go_wp2_with fail
          refine hcl.mono ?_
          rintro e w4 ⟨rfl, K4, S4⟩
          rw [← HW.out] at S4
          rw [← HW.out]
          have HS4 : Hid (RSx w0 rb w4 (addD s line).1) := S4
          clear hcl S4
          go_wp2_with fail
          go_ret
          exact ⟨rfl, K4, HS4.out⟩
end Go.Proofs.YtolljdomnohmdabGreatDoor
namespace Go.Proofs.YtolljdomnohmdabGreatDoor
open Go.RowKit Go.Shelf

theorem results_cell_tmp2 {fn : Func} {p u v : Tmp} {ty : TypeId} (h : fn.results = #[.cell p ty, .tmp u, .tmp v]) (tmps : Array Value) (P : Program) (w : World) :
    (results fn tmps).run P w =
      ((asAddr (tmps.getD p undef)).run P w).andThen fun a w₁ => ((loadVar ty a).run P w₁).andThen fun x w₂ => .ok (.tuple #[x, tmps.getD u undef, tmps.getD v undef]) w₂ := by
  simp only [results, h]
  simp [Sem.run_bind, Result.andThen]
theorem turn_set3 (w : World) (b : Nat) (v0 v1 v2 : Value) : Turns (fun k => k = b) w (((w.setCell ⟨b, 0, none⟩ v0).setCell ⟨b, 1, none⟩ v1).setCell ⟨b, 2, none⟩ v2) :=
  (((turn_set w b 0 v0).setCell (p := ⟨b, 1, none⟩) rfl v1).setCell (p := ⟨b, 2, none⟩) rfl v2)
theorem RS.new (w : World) (B : Nat) (hB : B ≤ w.heap.size) : RS B w.heap.size (w.alloc (.cells #[.int .i64 0, .slice none 0 0, .slice none 0 0, .bool false] 83)) zeroR (.slice none 0 0) (.slice none 0 0) [] (w.heap.size + 1) := by
  refine ⟨box_new B w 83 [.int .i64 0, .slice none 0 0, .slice none 0 0, .bool false] hB (by simp), World.ownsRow_nil _ _ _ _, rfl, World.ownsRow_nil _ _ _ _, by omega, fun k h => ?_, fun k h => ?_, ⟨by omega, by simp⟩, fun j t v h1 h2 => ?_, fun j t v h1 h2 => ?_⟩
  · simp [Value.ownBlock] at h
  · simp [Value.ownBlock] at h
  · simp [zeroR] at h2
  · simp [zeroR] at h2
theorem zero_inv : RInv zeroR := ⟨by simp [zeroR], by simp [zeroR], by simp [zeroR, lastP]⟩
theorem readGo_err {s : RdD} {i : Nat} {l : List UInt8} {r : List (List UInt8)} (h : (addD s l).2 ≠ 0) : readGo s i (l :: r) = ((addD s l).1, i, (addD s l).2) := by rw [readGo, if_neg h]
theorem readGo_ok {s : RdD} {i : Nat} {l : List UInt8} {r : List (List UInt8)} (h : (addD s l).2 = 0) : readGo s i (l :: r) = readGo (addD s l).1 (i + 1) r := by rw [readGo, if_pos h]
set_option maxHeartbeats 8000000 in
set_option maxRecDepth 20000 in
theorem lines_read (ls : List (List UInt8)) (n c : Nat) (ad : Option Addr) (w : World) (hr : Rdy w) (hn : n = ls.length) (hA : At w ad n ls) (hb : ∀ x ∈ ls, x.length ≤ 1000) (hl : ls.length ≤ 100000) :
    Calls Tryz.prog 13 #[.slice ad n c] w fun e w' => ∃ ha hc ta tc, e = .returned (.tuple #[.agg #[.int .i64 (readGo zeroR 0 ls).1.L, .slice ha (readGo zeroR 0 ls).1.cs.length hc, .slice ta (readGo zeroR 0 ls).1.ts.length tc], .int .i64 (readGo zeroR 0 ls).2.1, .int .i64 (readGo zeroR 0 ls).2.2]) ∧ (∀ w2, Turns (fun k => k < w.heap.size) w' w2 → AtH w2 ha (readGo zeroR 0 ls).1.cs ∧ AtT w2 ta (readGo zeroR 0 ls).1.ts) ∧ Kept w w' := by
  have HR : Hid (Rdy w) := hr
  have HA : Hid (At w ad n ls) := hA
  have HB : Hid (∀ x ∈ ls, x.length ≤ 1000) := hb
  have HNL : Hid (n = ls.length) := hn
  have hnl : n ≤ 100000 := by omega
  have KA0 : Kept w (w.alloc (.cells #[.int .i64 0, .slice none 0 0, .slice none 0 0] 27)) := (Kept.refl w).alloc _
  have HBR : Hid (Box w.heap.size (w.alloc (.cells #[.int .i64 0, .slice none 0 0, .slice none 0 0] 27)) 27 w.heap.size [.int .i64 0, .slice none 0 0, .slice none 0 0]) := box_new w.heap.size w 27 [.int .i64 0, .slice none 0 0, .slice none 0 0] (Nat.le_refl _) (by simp)
  have KA1 : Kept (w.alloc (.cells #[.int .i64 0, .slice none 0 0, .slice none 0 0] 27)) ((w.alloc (.cells #[.int .i64 0, .slice none 0 0, .slice none 0 0] 27)).alloc (.cells #[.int .i64 0, .slice none 0 0, .slice none 0 0, .bool false] 83)) := (Kept.refl _).alloc _
  have hw0 : (w.alloc (.cells #[.int .i64 0, .slice none 0 0, .slice none 0 0] 27)).heap.size = w.heap.size + 1 := by simp
  have HS0 : Hid (RSx (w.alloc (.cells #[.int .i64 0, .slice none 0 0, .slice none 0 0] 27)) (w.heap.size + 1) ((w.alloc (.cells #[.int .i64 0, .slice none 0 0, .slice none 0 0] 27)).alloc (.cells #[.int .i64 0, .slice none 0 0, .slice none 0 0, .bool false] 83)) zeroR) := by
    have h := RS.new (w.alloc (.cells #[.int .i64 0, .slice none 0 0, .slice none 0 0] 27)) _ (Nat.le_refl _)
    show RSx _ _ _ _
    rw [hw0] at h
    exact ⟨_, _, _, _, by rw [hw0]; exact h⟩
  have HZ : Hid (readGo zeroR 0 ls = readGo zeroR 0 (ls.drop 0)) := rfl
  have HI0 : Hid (RInv zeroR) := zero_inv
  clear hr hA hb hn hl
  go_enter Tryz.func13, Tryz.ntmps13
  go_wp2_with fail
  go_step3
  go_wp2_with fail
  go_step3
  go_wp2_with fail
  go_loopg [6, 7, 14] n (fun gk xs es is wr => ∃ (i : Nat) (sx : RdD) (W : World), W = wr ∧ xs = .int .i64 0 ∧ es = .int .i64 0 ∧ is = .int .i64 i ∧ i + gk = n ∧ Hid (readGo zeroR 0 ls = readGo sx i (ls.drop i)) ∧ Hid (RInv sx) ∧ Hid (RSx (w.alloc (.cells #[.int .i64 0, .slice none 0 0, .slice none 0 0] 27)) (w.heap.size + 1) W sx) ∧ Kept (w.alloc (.cells #[.int .i64 0, .slice none 0 0, .slice none 0 0] 27)) W)
  case atStart => exact ⟨0, _, _, rfl, rfl, rfl, rfl, by omega, HZ, HI0, HS0, KA1⟩
  case round =>
    obtain ⟨i, sx, W, hW, rfl, rfl, rfl, hi, HF, HI, HS, K⟩ := hrel
    subst hW
    by_cases hin : i < n
    · have b1 : (i : Int) < (n : Int) := by omega
      have b2 : (0 : Int) ≤ (i : Int) := by omega
      obtain ⟨gm, rfl⟩ : ∃ g, gk = g + 1 := ⟨gk - 1, by omega⟩
      obtain ⟨y, hy⟩ : ∃ y, ls[i]? = some y := ⟨_, List.getElem?_eq_getElem (by rw [← HNL.out]; exact hin)⟩
      obtain ⟨b0, f0, rfl, u0⟩ := HA.out.word i y hy
      have u1 := (KA0.trans K).cell u0
      have hdr : ls.drop i = y :: ls.drop (i + 1) := List.drop_eq_getElem?_toList_append.trans (by rw [hy]; rfl)
      have HF2 : Hid (readGo zeroR 0 ls = readGo sx i (y :: ls.drop (i + 1))) := by show _ = _; rw [HF.out, hdr]
      have had := add_any (w.alloc (.cells #[.int .i64 0, .slice none 0 0, .slice none 0 0] 27)) (w.heap.size + 1) sx y W (HR.out.kept (KA0.trans K)) K (HB.out y (List.mem_of_getElem? hy)) HS.out HI.out
      obtain ⟨q2, hq2⟩ : ∃ q, (addD sx y).2 = q := ⟨_, rfl⟩
      rw [hq2] at had
      clear u0 hdr hy
      go_wp2_with fail
      refine had.mono ?_
      rintro e W2 ⟨rfl, K2, S2⟩
      have HS2 : Hid (RSx (w.alloc (.cells #[.int .i64 0, .slice none 0 0, .slice none 0 0] 27)) (w.heap.size + 1) W2 (addD sx y).1) := S2
      clear had S2 u1
      by_cases hq : q2 = 0
      · subst hq
        have HFX : Hid (readGo zeroR 0 ls = readGo (addD sx y).1 (i + 1) (ls.drop (i + 1))) := by show _ = _; rw [HF2.out, readGo_ok hq2]
        have HIX : Hid (RInv (addD sx y).1) := add_inv HI.out hq2
        go_wp2_with fail
        go_roundg gm
        case rel => exact ⟨i + 1, _, _, rfl, rfl, rfl, by go_num, by omega, HFX, HIX, HS2, K2⟩
        case measure => omega
      · have hne : (q2 != 0) = true := by simpa using hq
        have HEQ : Hid (readGo zeroR 0 ls = ((addD sx y).1, i, q2)) := by show _ = _; rw [HF2.out, readGo_err (by rw [hq2]; exact hq), hq2]
        clear HF2 HF HS HI
        generalize (addD sx y).1 = s9 at *
        clear K hq2
        obtain ⟨hv, tv, pvs, Bp, R⟩ := HS2.out
        obtain ⟨ha, hc, ta, tc, rfl, rfl, hH, hT⟩ := R.view
        have z0 : W2.cell? ⟨w.heap.size + 1, 0, none⟩ = some (.int .i64 s9.L) := R.box.cell 0 (by simp)
        have z1 : W2.cell? ⟨w.heap.size + 1, 1, none⟩ = some (.slice ha s9.cs.length hc) := R.box.cell 1 (by simp)
        have z2 : W2.cell? ⟨w.heap.size + 1, 2, none⟩ = some (.slice ta s9.ts.length tc) := R.box.cell 2 (by simp)
        have BR := HBR.out.kept K2
        have p0 : W2.cell? ⟨w.heap.size, 0, none⟩ = some (.int .i64 0) := BR.cell 0 (by simp)
        have p1 : W2.cell? ⟨w.heap.size, 1, none⟩ = some (.slice none 0 0) := BR.cell 1 (by simp)
        have p2 : W2.cell? ⟨w.heap.size, 2, none⟩ = some (.slice none 0 0) := BR.cell 2 (by simp)
        have pf0 := BR.frozen 0
        have pf1 := BR.frozen 1
        have pf2 := BR.frozen 2
        have pl := BR.lt.2
        have t3 := turn_set3 W2 w.heap.size (.int .i64 s9.L) (.slice ha s9.cs.length hc) (.slice ta s9.ts.length tc)
        have HFV := fun w2 (t2 : Turns (fun k => k < w.heap.size) _ w2) => (R.low (S := fun k => k < w.heap.size + 1) ((t3.mono (fun k _ e => by have e' : k = w.heap.size := e; show k < w.heap.size + 1; omega)).trans (t2.mono (fun k _ e => by have e' : k < w.heap.size := e; show k < w.heap.size + 1; omega))) (fun k e => by rw [hw0]; exact e)).view
        have KF := t3.kept (KA0.trans K2) (fun k e => by rw [e]; exact Nat.le_refl _)
        have HFIN : Hid (∀ w2, Turns (fun k => k < w.heap.size) (((W2.setCell ⟨w.heap.size, 0, none⟩ (.int .i64 s9.L)).setCell ⟨w.heap.size, 1, none⟩ (.slice ha s9.cs.length hc)).setCell ⟨w.heap.size, 2, none⟩ (.slice ta s9.ts.length tc)) w2 → AtH w2 ha s9.cs ∧ AtT w2 ta s9.ts) := by
          intro w2 t2
          obtain ⟨ha', hc', ta', tc', e1, e2, e3, e4⟩ := HFV w2 t2
          have y1 := (Value.slice.inj e1).1
          have y2 := (Value.slice.inj e2).1
          subst y1
          subst y2
          exact ⟨e3, e4⟩
        clear R hH hT BR HFV t3
        go_wp2_with fail
        try rw [Exit.noGoto_ret]
        (try simp only [Exit.inBlock, Exit.then])
        refine bodyPost_ret (v := .tuple #[.agg #[.int .i64 s9.L, .slice ha s9.cs.length hc, .slice ta s9.ts.length tc], .int .i64 (i : Int), .int .i64 q2]) ?_ rfl ?_
        · rw [results_cell_tmp2 rfl]
          go_simp
        · rw [HEQ.out]
          exact ⟨ha, hc, ta, tc, rfl, HFIN.out, KF⟩
    · have b1 : ¬ (i : Int) < (n : Int) := by omega
      have HEQ : Hid (readGo zeroR 0 ls = (sx, 0, 0)) := by show _ = _; rw [HF.out, List.drop_eq_nil_of_le (by rw [← HNL.out]; omega)]; rfl
      obtain ⟨hv, tv, pvs, Bp, R⟩ := HS.out
      obtain ⟨ha, hc, ta, tc, rfl, rfl, hH, hT⟩ := R.view
      have z0 : W.cell? ⟨w.heap.size + 1, 0, none⟩ = some (.int .i64 sx.L) := R.box.cell 0 (by simp)
      have z1 : W.cell? ⟨w.heap.size + 1, 1, none⟩ = some (.slice ha sx.cs.length hc) := R.box.cell 1 (by simp)
      have z2 : W.cell? ⟨w.heap.size + 1, 2, none⟩ = some (.slice ta sx.ts.length tc) := R.box.cell 2 (by simp)
      have BR := HBR.out.kept K
      have p0 : W.cell? ⟨w.heap.size, 0, none⟩ = some (.int .i64 0) := BR.cell 0 (by simp)
      have p1 : W.cell? ⟨w.heap.size, 1, none⟩ = some (.slice none 0 0) := BR.cell 1 (by simp)
      have p2 : W.cell? ⟨w.heap.size, 2, none⟩ = some (.slice none 0 0) := BR.cell 2 (by simp)
      have pf0 := BR.frozen 0
      have pf1 := BR.frozen 1
      have pf2 := BR.frozen 2
      have pl := BR.lt.2
      have t3 := turn_set3 W w.heap.size (.int .i64 sx.L) (.slice ha sx.cs.length hc) (.slice ta sx.ts.length tc)
      have HFV := fun w2 (t2 : Turns (fun k => k < w.heap.size) _ w2) => (R.low (S := fun k => k < w.heap.size + 1) ((t3.mono (fun k _ e => by have e' : k = w.heap.size := e; show k < w.heap.size + 1; omega)).trans (t2.mono (fun k _ e => by have e' : k < w.heap.size := e; show k < w.heap.size + 1; omega))) (fun k e => by rw [hw0]; exact e)).view
      have KF := t3.kept (KA0.trans K) (fun k e => by rw [e]; exact Nat.le_refl _)
      have HFIN : Hid (∀ w2, Turns (fun k => k < w.heap.size) (((W.setCell ⟨w.heap.size, 0, none⟩ (.int .i64 sx.L)).setCell ⟨w.heap.size, 1, none⟩ (.slice ha sx.cs.length hc)).setCell ⟨w.heap.size, 2, none⟩ (.slice ta sx.ts.length tc)) w2 → AtH w2 ha sx.cs ∧ AtT w2 ta sx.ts) := by
        intro w2 t2
        obtain ⟨ha', hc', ta', tc', e1, e2, e3, e4⟩ := HFV w2 t2
        have y1 := (Value.slice.inj e1).1
        have y2 := (Value.slice.inj e2).1
        subst y1
        subst y2
        exact ⟨e3, e4⟩
      clear R hH hT BR HFV t3
      go_wp2_with fail
      try rw [Exit.noGoto_ret]
      (try simp only [Exit.inBlock, Exit.then])
      refine bodyPost_ret (v := .tuple #[.agg #[.int .i64 sx.L, .slice ha sx.cs.length hc, .slice ta sx.ts.length tc], .int .i64 0, .int .i64 0]) ?_ rfl ?_
      · rw [results_cell_tmp2 rfl]
        go_simp
      · rw [HEQ.out]
        exact ⟨ha, hc, ta, tc, rfl, HFIN.out, KF⟩
end Go.Proofs.YtolljdomnohmdabGreatDoor
namespace Go.Proofs.YtolljdomnohmdabGreatDoor
open Go.RowKit

def lkL : List UInt8 := [108, 111, 99, 107, 115, 32, 48]
def chLn : List UInt8 := [99, 104, 97, 110, 32, 49, 32, 45]
def tkLn (j : Nat) : List UInt8 := [116, 97, 115, 107, 32, UInt8.ofNat (97 + j), 32, 57, 57, 32, 57, 57, 32, 57, 57]
def rnLn : List UInt8 := [114, 117, 110, 32, 49]
def run1 : OpD := ⟨1, 1, 0, 0, []⟩
def chsG (b : Nat) : List ChanD := List.replicate b ⟨1, -1⟩
def tskG (c j : Nat) : TaskD := ⟨[UInt8.ofNat (97 + j)], 99, 99, 99, List.replicate (if j = 0 then c else 1) run1⟩
def tsksG (c a : Nat) : List TaskD := (List.range a).map (tskG c)
def lnG (c j : Nat) : List (List UInt8) := tkLn j :: List.replicate (if j = 0 then c else 1) rnLn
/-- The lines of the locks and of j channels; of i tasks more. -/
def linC (j : Nat) : List (List UInt8) := lkL :: List.replicate j chLn
def linT (b c i : Nat) : List (List UInt8) := linC b ++ (List.range i).flatMap (lnG c)
theorem chan_line : joinW (chanWs ⟨1, -1⟩) = chLn := by decide +kernel
theorem locks_line : joinW [locksW, Lib.itoa 0] = lkL := by decide +kernel
theorem run_line : textD run1 = rnLn := by decide +kernel
theorem i99 : Lib.itoa 99 = [57, 57] := by decide +kernel
theorem task_line (c j : Nat) : joinW (taskWs (tskG c j)) = tkLn j := by
  simp only [taskWs, tskG, i99]
  rfl
theorem chans_lines (b : Nat) : (chsG b).map (fun c => joinW (chanWs c)) = List.replicate b chLn := by rw [chsG, List.map_replicate, chan_line]
theorem tasks_lines (c j : Nat) : taskLs (tskG c j) = lnG c j := by
  unfold taskLs lnG
  rw [task_line]
  simp [tskG, run_line]
theorem tasks_flat (c a : Nat) : (tsksG c a).flatMap taskLs = (List.range a).flatMap (lnG c) := by
  unfold tsksG
  rw [List.flatMap_map]
  congr 1
  funext j
  exact tasks_lines c j
theorem linT_next (b c i : Nat) : linT b c (i + 1) = linT b c i ++ lnG c i := by
  unfold linT
  rw [List.range_succ, List.flatMap_append, ← List.append_assoc]
  simp
theorem linC_next (j : Nat) : linC (j + 1) = linC j ++ [chLn] := by
  unfold linC
  rw [List.replicate_succ', List.cons_append]
theorem line_ok : (∀ x ∈ lkL, x ≠ 10) ∧ (∀ x ∈ chLn, x ≠ 10) ∧ (∀ x ∈ rnLn, x ≠ 10) ∧ ∀ j, j < 13 → ∀ x ∈ tkLn j, x ≠ 10 := by decide +kernel
theorem linT_bytes {b c a : Nat} (ha : a ≤ 13) : ∀ l ∈ linT b c a, ∀ x ∈ l, x ≠ 10 := by
  obtain ⟨h1, h2, h3, h4⟩ := line_ok
  intro l hl
  unfold linT linC at hl
  rw [List.mem_append, List.mem_cons] at hl
  rcases hl with (rfl | hl) | hl
  · exact h1
  · rw [(List.mem_replicate.1 hl).2]; exact h2
  · obtain ⟨j, hj, hl⟩ := List.mem_flatMap.1 hl
    have hj2 := List.mem_range.1 hj
    unfold lnG at hl
    rcases List.mem_cons.1 hl with rfl | hl
    · exact h4 j (by omega)
    · rw [(List.mem_replicate.1 hl).2]; exact h3
theorem linT_short {b c a : Nat} : ∀ l ∈ linT b c a, l.length ≤ 1000 := by
  intro l hl
  unfold linT linC at hl
  rw [List.mem_append, List.mem_cons] at hl
  rcases hl with (rfl | hl) | hl
  · decide
  · rw [(List.mem_replicate.1 hl).2]; decide
  · obtain ⟨j, hj, hl⟩ := List.mem_flatMap.1 hl
    unfold lnG at hl
    rcases List.mem_cons.1 hl with rfl | hl
    · simp [tkLn]
    · rw [(List.mem_replicate.1 hl).2]; decide
theorem linC_len (j : Nat) : (linC j).length = 1 + j := by simp [linC]; omega
theorem linT_len (b c : Nat) : ∀ i, (linT b c (i + 1)).length = 1 + b + 1 + c + 2 * i
  | 0 => by
    rw [linT_next, List.length_append]
    simp [linT, linC, lnG]
    omega
  | i + 1 => by
    rw [linT_next, List.length_append, linT_len b c i]
    simp [lnG]
    omega
theorem run_ok : checkD run1 = 0 ∧ In64 run1 := by
  constructor
  · decide +kernel
  · exact ⟨by constructor <;> decide, by constructor <;> decide, by constructor <;> decide, by constructor <;> decide, fun c hc => by cases hc⟩
theorem name_ok : ∀ j, j < 13 → within 97 122 [UInt8.ofNat (97 + j)] = true := by decide +kernel
theorem read_c {b : Nat} (hb : b ≤ 8) (i : Nat) : readGo ⟨0, true, [], []⟩ i (List.replicate b chLn) = (⟨0, true, chsG b, []⟩, 0, 0) := by
  have h := read_chans (L := 0) (chsG b) [] i (fun c hc => by rw [(List.mem_replicate.1 hc).2]; decide) (by simp [chsG]; omega)
  rw [chans_lines, List.nil_append] at h
  exact h
theorem read_C {b : Nat} (hb : b ≤ 8) : readGo zeroR 0 (linC b) = (⟨0, true, chsG b, []⟩, 0, 0) := by
  unfold linC
  rw [← locks_line, readGo, addD_locks (by omega), if_pos rfl]
  exact read_c hb 1
theorem in99 : in64 99 := by unfold in64; omega
theorem read_T {b c a : Nat} (hb : b ≤ 8) (hc : c ≤ 48) (ha : a ≤ 12) : readGo zeroR 0 (linT b c a) = (⟨0, true, chsG b, tsksG c a⟩, 0, 0) := by
  unfold linT
  rw [readGo_app _ _ _ _ _ (read_C hb), ← tasks_flat]
  have h := read_tasks (L := 0) (cs := chsG b) (tsksG c a) [] (0 + (linC b).length) (fun t ht => by
    obtain ⟨j, hj, rfl⟩ := List.mem_map.1 ht
    have hj2 := List.mem_range.1 hj
    refine ⟨name_ok j (by omega), ⟨in99, in99, in99⟩, ?_, fun o ho => ?_⟩
    · simp only [tskG, List.length_replicate]; split <;> omega
    · rw [(List.mem_replicate.1 ho).2]; exact run_ok) (by simp [tsksG]; omega)
  rw [List.nil_append] at h
  exact h
theorem parse_lines {ls : List (List UInt8)} (hb : ∀ l ∈ ls, ∀ x ∈ l, x ≠ 10) (hne : ls ≠ []) : parseS (putL ls) = if (readGo zeroR 0 ls).2.2 = 0 then (if (checkS (readGo zeroR 0 ls).1.L (readGo zeroR 0 ls).1.cs (readGo zeroR 0 ls).1.ts).2 = 0 then ((readGo zeroR 0 ls).1, 0, 0) else (zeroR, 0, (checkS (readGo zeroR 0 ls).1.L (readGo zeroR 0 ls).1.cs (readGo zeroR 0 ls).1.ts).2)) else (zeroR, (readGo zeroR 0 ls).2.1, (readGo zeroR 0 ls).2.2) := by
  unfold parseS
  rw [putL_ok, if_neg (by simp), lines_putL _ hb, if_neg hne]
theorem linT_ne (b c a : Nat) : linT b c a ≠ [] := by simp [linT, linC]
/-- A line that is told as wrong behind lines that are taken. -/
theorem parse_err {ls r : List (List UInt8)} {x : List UInt8} {s : RdD} (h : readGo zeroR 0 ls = (s, 0, 0)) (he : (addD s x).2 = 4) (hb : ∀ l ∈ ls ++ x :: r, ∀ x ∈ l, x ≠ 10) : parseS (putL (ls ++ x :: r)) = (zeroR, ls.length, 4) := by
  have h2 : readGo zeroR 0 (ls ++ x :: r) = ((addD s x).1, 0 + ls.length, 4) := by
    rw [readGo_app _ _ _ _ _ h, readGo_err (by omega), he]
  rw [parse_lines hb (by simp), h2]
  simp
theorem full_c : (addD ⟨0, true, chsG 8, []⟩ chLn).2 = 4 := by decide +kernel
theorem full_o : ∀ b, b < 9 → (addD ⟨0, true, chsG b, [tskG 48 0]⟩ rnLn).2 = 4 := by decide +kernel
theorem full_t (b c : Nat) : (addD ⟨0, true, chsG b, tsksG c 12⟩ (tkLn 12)).2 = 4 := by
  have h1 : splitOf (tkLn 12) = some [taskW, [109], [57, 57], [57, 57], [57, 57]] := by decide +kernel
  unfold addD
  rw [h1]
  have h2 : mayB ⟨0, true, chsG b, tsksG c 12⟩ taskW = true := by
    unfold mayB
    rw [if_neg (by simp), if_neg (by decide), if_pos rfl]
  have h3 : fullB ⟨0, true, chsG b, tsksG c 12⟩ taskW = true := by
    unfold fullB
    rw [if_neg (by decide), if_neg (by decide), if_pos rfl]
    simp [tsksG]
  show (if mayB ⟨0, true, chsG b, tsksG c 12⟩ taskW = false then _ else _ : RdD × Int).2 = 4
  rw [h2, if_neg (by simp)]
  show (if fullB ⟨0, true, chsG b, tsksG c 12⟩ taskW = true then _ else _ : RdD × Int).2 = 4
  rw [h3, if_pos rfl]
theorem checks_ok : ∀ a, a < 12 → ∀ b, b < 9 → ∀ c, c < 48 → (checkS 0 (chsG b) (tsksG (c + 1) (a + 1))).2 = 0 := by decide +kernel
end Go.Proofs.YtolljdomnohmdabGreatDoor

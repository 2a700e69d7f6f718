/- text.Parse. -/
import Derived.Test.YtolljdomnohmdabGreatDoorM19
import Derived.Test.YtolljdomnohmdabGreatDoorM6
import Derived.Test.YtolljdomnohmdabGreatDoorM15
namespace Go.Proofs.YtolljdomnohmdabGreatDoor
open Go.RowKit Go.Shelf

theorem cases_le {o : OpD} (h : checkD o = 0) : o.cases.length ≤ 20 := by
  have h1 := taken_of h
  have h2 := h1.takes
  by_cases hp : (shapeOf o.kind.toNat).picks = true
  · have := h1.many hp
    omega
  · simp only [takesB, Bool.and_eq_true, Bool.or_eq_true] at h2
    rcases h2.2 with h3 | h3
    · exact absurd h3 hp
    · have := eq_of_beq h3
      omega
theorem tsok_add {ts : List TaskD} {t : TaskD} (h : TsOk ts) (ht : t.name.length ≤ 1000000 ∧ t.prog.length ≤ 100000 ∧ ∀ o ∈ t.prog, o.cases.length ≤ 1000000) : TsOk (ts ++ [t]) := by
  intro u hu
  rw [List.mem_append, List.mem_singleton] at hu
  rcases hu with hu | rfl
  · exact h u hu
  · exact ht
theorem add_tok {s : RdD} {line : List UInt8} (hl : line.length ≤ 1000) (h : TsOk s.ts) (hi : RInv s) (h0 : (addD s line).2 = 0) : TsOk (addD s line).1.ts := by
  cases hs : splitOf line with
  | none => rw [add_none hs] at h0; cases h0
  | some ws =>
    have hw := splitOf_mem hs
    rw [add_some hs] at h0 ⊢
    split at h0
    · cases h0
    · rename_i hm
      rw [if_neg hm]
      split at h0
      · cases h0
      · rename_i hf
        rw [if_neg hf]
        have hm' : mayB s (ws.headD []) = true := by simpa using hm
        split at h0
        · rename_i e
          rw [if_pos e]
          unfold addLocksD at h0 ⊢
          split at h0
          · split at h0
            · rename_i h1; rw [if_pos h1]; exact h
            · rename_i h1; exact absurd h0 h1
          · cases h0
        · rename_i e0
          rw [if_neg e0]
          split at h0
          · rename_i e
            rw [if_pos e]
            unfold addChanD at h0 ⊢
            split at h0
            · split at h0
              · rename_i h1
                split at h0
                · rename_i h2; rw [if_pos h1, if_pos h2]; exact h
                · rename_i h2; exact absurd h0 h2
              · rename_i h1; exact absurd h0 h1
            · cases h0
          · rename_i e1
            rw [if_neg e1]
            split at h0
            · rename_i e
              rw [if_pos e]
              unfold addTaskD at h0 ⊢
              split at h0
              · split at h0
                · rename_i h1
                  split at h0
                  · rename_i h2
                    split at h0
                    · rename_i h3
                      rw [if_pos h1, if_pos h2, if_pos h3]
                      exact tsok_add h ⟨by have := hw _ (List.mem_cons_of_mem _ (List.mem_cons_self ..)); simp only; omega, by simp, by simp⟩
                    · rename_i h3; exact absurd h0 h3
                  · rename_i h2; exact absurd h0 h2
                · rename_i h1; exact absurd h0 h1
              · cases h0
            · rename_i e2
              rw [if_neg e2]
              obtain ⟨ts, t, hts⟩ := last_split s.ts (may_op hm' e0 e1 e2)
              unfold addOpD at h0 ⊢
              split at h0
              · rename_i h1
                rw [if_pos h1]
                show TsOk (putOp s.ts _)
                have hlp := hi.lp
                rw [hts, lastP_app] at hlp
                rw [hts] at h
                rw [hts, putOp_app]
                have ht := h t (by simp)
                have hck := (text_parse (s := line) (o := (parseD line).1) (by rw [← h1])).2
                refine tsok_add (fun u hu => h u (by simp [hu])) ⟨ht.1, by simp only [List.length_append, List.length_singleton]; omega, fun o ho => ?_⟩
                simp only [List.mem_append, List.mem_singleton] at ho
                rcases ho with ho | rfl
                · exact ht.2.2 o ho
                · have := cases_le hck
                  omega
              · rename_i h1; exact absurd h0 h1
theorem read_tok : ∀ (ls : List (List UInt8)) (s : RdD) (i : Nat), (∀ x ∈ ls, x.length ≤ 1000) → TsOk s.ts → RInv s → (readGo s i ls).2.2 = 0 → TsOk (readGo s i ls).1.ts ∧ RInv (readGo s i ls).1 ∧ (readGo s i ls).2.1 = 0
  | [], s, i, _, h1, h2, _ => ⟨h1, h2, rfl⟩
  | l :: r, s, i, hb, h1, h2, h0 => by
    by_cases hq : (addD s l).2 = 0
    · rw [readGo_ok hq] at h0 ⊢
      exact read_tok r _ _ (fun x hx => hb x (by simp [hx])) (add_tok (hb l (by simp)) h1 h2 hq) (add_inv h2 hq) h0
    · rw [readGo_err hq] at h0
      exact absurd h0 hq
theorem zero_tok : TsOk zeroR.ts := by intro t ht; simp [zeroR] at ht
set_option maxHeartbeats 8000000 in
set_option maxRecDepth 20000 in
/-- text.Parse of any text of lines that are not too long. -/
theorem tparse_any (l : List UInt8) (hl : l.length ≤ 1000000) (hln : (linesOf l).length ≤ 100000) (hb : ∀ x ∈ linesOf l, x.length ≤ 1000) (w : World) (hr : Rdy w) :
    Calls Tryz.prog 5 #[.string (B l)] w fun e w' => ∃ ha hc ta tc, e = .returned (.tuple #[.agg #[.int .i64 (parseS l).1.L, .slice ha (parseS l).1.cs.length hc, .slice ta (parseS l).1.ts.length tc], .int .i64 (parseS l).2.1, .int .i64 (parseS l).2.2]) ∧ AtH w' ha (parseS l).1.cs ∧ AtT w' ta (parseS l).1.ts ∧ Kept w w' := by
  have HR : Hid (Rdy w) := hr
  have HB : Hid (∀ x ∈ linesOf l, x.length ≤ 1000) := hb
  have KA : Kept w (w.alloc (.cells #[.int .i64 0, .slice none 0 0, .slice none 0 0] 27)) := (Kept.refl w).alloc _
  have HBR : Hid (Box w.heap.size (w.alloc (.cells #[.int .i64 0, .slice none 0 0, .slice none 0 0] 27)) 27 w.heap.size [.int .i64 0, .slice none 0 0, .slice none 0 0]) := box_new w.heap.size w 27 [.int .i64 0, .slice none 0 0, .slice none 0 0] (Nat.le_refl _) (by simp)
  have hli := lines_any2 l hl (w.alloc (.cells #[.int .i64 0, .slice none 0 0, .slice none 0 0] 27)) (hr.kept KA)
  clear hr hb
  by_cases hok : linesOk l = true
  rotate_left
  · have HP : Hid (parseS l = (zeroR, 0, 2)) := by show _ = _; unfold parseS; rw [if_pos (by simpa using hok)]
    rw [show linesE l = 2 by simp [linesE, hok]] at hli
    clear hok
    go_enter Tryz.func5, Tryz.ntmps5
    go_wp2_with fail
    refine hli.mono ?_
    rintro e w1 ⟨v1, rfl, r1, K1⟩
    have BR := HBR.out.kept K1
    have p0 : w1.cell? ⟨w.heap.size, 0, none⟩ = some (.int .i64 0) := BR.cell 0 (by simp)
    have p1 : w1.cell? ⟨w.heap.size, 1, none⟩ = some (.slice none 0 0) := BR.cell 1 (by simp)
    have p2 : w1.cell? ⟨w.heap.size, 2, none⟩ = some (.slice none 0 0) := BR.cell 2 (by simp)
    have pf0 := BR.frozen 0
    have pf1 := BR.frozen 1
    have pf2 := BR.frozen 2
    have pl := BR.lt.2
    clear hli r1
    have t3 := (turn_set3 w1 w.heap.size (.int .i64 0) (.slice none 0 0) (.slice none 0 0)).kept (KA.trans K1) (fun k e => by rw [e]; exact Nat.le_refl _)
    clear BR
    go_wp2_with fail
    (try simp only [Exit.inBlock, Exit.then])
    refine bodyPost_ret (v := .tuple #[.agg #[.int .i64 0, .slice none 0 0, .slice none 0 0], .int .i64 0, .int .i64 2]) ?_ rfl ?_
    · rw [results_cell_tmp2 rfl]
      go_simp
    · rw [HP.out]
      exact ⟨none, 0, none, 0, rfl, AtH.nil _ _, AtT.nil _ _, t3⟩
  rw [show linesE l = 0 by simp [linesE, hok], show linesR l = linesOf l by simp [linesR, hok]] at hli
  obtain ⟨n, hn⟩ : ∃ n, (linesOf l).length = n := ⟨_, rfl⟩
  by_cases hem : linesOf l = []
  · have HP : Hid (parseS l = (zeroR, 0, 2)) := by show _ = _; unfold parseS; rw [if_neg (by simpa using hok), if_pos hem]
    rw [hem] at hli
    clear hok hem HB hln hn
    go_enter Tryz.func5, Tryz.ntmps5
    go_wp2_with fail
    refine hli.mono ?_
    rintro e w1 ⟨v1, rfl, r1, K1⟩
    obtain ⟨a1, c1, hv1, hcap, hat1⟩ := StrRow.view r1
    subst hv1
    have BR := HBR.out.kept K1
    have p0 : w1.cell? ⟨w.heap.size, 0, none⟩ = some (.int .i64 0) := BR.cell 0 (by simp)
    have p1 : w1.cell? ⟨w.heap.size, 1, none⟩ = some (.slice none 0 0) := BR.cell 1 (by simp)
    have p2 : w1.cell? ⟨w.heap.size, 2, none⟩ = some (.slice none 0 0) := BR.cell 2 (by simp)
    have pf0 := BR.frozen 0
    have pf1 := BR.frozen 1
    have pf2 := BR.frozen 2
    have pl := BR.lt.2
    clear hli r1 hat1
    have t3 := (turn_set3 w1 w.heap.size (.int .i64 0) (.slice none 0 0) (.slice none 0 0)).kept (KA.trans K1) (fun k e => by rw [e]; exact Nat.le_refl _)
    clear BR
    go_wp2_with fail
    (try simp only [Exit.inBlock, Exit.then])
    refine bodyPost_ret (v := .tuple #[.agg #[.int .i64 0, .slice none 0 0, .slice none 0 0], .int .i64 0, .int .i64 2]) ?_ rfl ?_
    · rw [results_cell_tmp2 rfl]
      go_simp
    · rw [HP.out]
      exact ⟨none, 0, none, 0, rfl, AtH.nil _ _, AtT.nil _ _, t3⟩
  have hn0 : 0 < n := by rw [← hn]; exact List.length_pos_iff.2 hem
  have HPS : Hid (parseS l = if (readGo zeroR 0 (linesOf l)).2.2 = 0 then (if (checkS (readGo zeroR 0 (linesOf l)).1.L (readGo zeroR 0 (linesOf l)).1.cs (readGo zeroR 0 (linesOf l)).1.ts).2 = 0 then ((readGo zeroR 0 (linesOf l)).1, 0, 0) else (zeroR, 0, (checkS (readGo zeroR 0 (linesOf l)).1.L (readGo zeroR 0 (linesOf l)).1.cs (readGo zeroR 0 (linesOf l)).1.ts).2))
  else (zeroR, (readGo zeroR 0 (linesOf l)).2.1, (readGo zeroR 0 (linesOf l)).2.2)) := by
    show _ = _
    unfold parseS
    rw [if_neg (by simpa using hok), if_neg hem]
  have HTK : Hid ((readGo zeroR 0 (linesOf l)).2.2 = 0 → TsOk (readGo zeroR 0 (linesOf l)).1.ts ∧ RInv (readGo zeroR 0 (linesOf l)).1 ∧ (readGo zeroR 0 (linesOf l)).2.1 = 0) := read_tok (linesOf l) zeroR 0 HB.out zero_tok zero_inv
  have HRD : Hid (∀ w1 a c, Rdy w1 → At w1 a n (linesOf l) → Calls Tryz.prog 13 #[.slice a n c] w1 fun e w' => ∃ ha hc ta tc, e = .returned (.tuple #[.agg #[.int .i64 (readGo zeroR 0 (linesOf l)).1.L, .slice ha (readGo zeroR 0 (linesOf l)).1.cs.length hc, .slice ta (readGo zeroR 0 (linesOf l)).1.ts.length tc], .int .i64 (readGo zeroR 0 (linesOf l)).2.1, .int .i64 (readGo zeroR 0 (linesOf l)).2.2]) ∧ (∀ w2, Turns (fun k => k < w1.heap.size) w' w2 → AtH w2 ha (readGo zeroR 0 (linesOf l)).1.cs ∧ AtT w2 ta (readGo zeroR 0 (linesOf l)).1.ts) ∧ Kept w1 w') := fun w1 a c h1 h2 => lines_read (linesOf l) n c a w1 h1 hn.symm h2 HB.out hln
  have hnl : n ≤ 100000 := by omega
  clear hok hem HB hln
  generalize linesOf l = ls at *
  generalize readGo zeroR 0 ls = rg at *
  obtain ⟨⟨sL, sb, scs, sts⟩, at9, er⟩ := rg
  simp only at HPS HTK HRD
  have hn1 : ((n : Int) == 0) = false := by simp; omega
  go_enter Tryz.func5, Tryz.ntmps5
  go_wp2_with fail
  refine hli.mono ?_
  rintro e w1 ⟨v1, rfl, r1, K1⟩
  obtain ⟨a1, c1, hv1, hcap, hat1⟩ := StrRow.view r1
  subst hv1
  rw [hn] at hat1 ⊢
  have hrd := HRD.out w1 a1 c1 ((HR.out.kept KA).kept K1) hat1
  have BR1 := HBR.out.kept K1
  have KW1 := KA.trans K1
  have hws : w.heap.size < w1.heap.size := BR1.lt.2
  clear hli r1 hat1 HRD hcap hn K1 KA HBR
  go_wp2_with fail
  refine hrd.mono ?_
  rintro e w2 ⟨ha, hc, ta, tc, rfl, HAT0, K2⟩
  have HAT : Hid (∀ w3, Turns (fun k => k < w1.heap.size) w2 w3 → AtH w3 ha scs ∧ AtT w3 ta sts) := HAT0
  have BX0 : Box w2.heap.size (w2.alloc (.cells #[.int .i64 sL, .slice ha scs.length hc, .slice ta sts.length tc] 27)) 27 w2.heap.size [.int .i64 sL, .slice ha scs.length hc, .slice ta sts.length tc] := box_new w2.heap.size w2 27 [.int .i64 sL, .slice ha scs.length hc, .slice ta sts.length tc] (Nat.le_refl _) (by simp)
  have KB2 : Kept w2 (w2.alloc (.cells #[.int .i64 sL, .slice ha scs.length hc, .slice ta sts.length tc] 27)) := (Kept.refl w2).alloc _
  have BR2 := (BR1.kept K2).kept KB2
  have KW2 := (KW1.trans K2).trans KB2
  have hw12 : w1.heap.size ≤ w2.heap.size := K2.size
  clear hrd HAT0 BR1 KW1 K2
  by_cases he : er = 0
  rotate_left
  · have HP : Hid (parseS l = (zeroR, at9, er)) := by show _ = _; rw [HPS.out, if_neg he]
    have e1 : (er == 0) = false := by simpa using he
    have e2 : (er != 0) = true := by simpa using he
    obtain ⟨W, hW⟩ : ∃ W, w2.alloc (.cells #[.int .i64 sL, .slice ha scs.length hc, .slice ta sts.length tc] 27) = W := ⟨_, rfl⟩
    have BR := BR2
    have p0 : (w2.alloc (.cells #[.int .i64 sL, .slice ha scs.length hc, .slice ta sts.length tc] 27)).cell? ⟨w.heap.size, 0, none⟩ = some (.int .i64 0) := BR.cell 0 (by simp)
    have p1 : (w2.alloc (.cells #[.int .i64 sL, .slice ha scs.length hc, .slice ta sts.length tc] 27)).cell? ⟨w.heap.size, 1, none⟩ = some (.slice none 0 0) := BR.cell 1 (by simp)
    have p2 : (w2.alloc (.cells #[.int .i64 sL, .slice ha scs.length hc, .slice ta sts.length tc] 27)).cell? ⟨w.heap.size, 2, none⟩ = some (.slice none 0 0) := BR.cell 2 (by simp)
    have pf0 := BR.frozen 0
    have pf1 := BR.frozen 1
    have pf2 := BR.frozen 2
    have pl := BR.lt.2
    clear BX0 BR2 hW
    have t3 := (turn_set3 (w2.alloc (.cells #[.int .i64 sL, .slice ha scs.length hc, .slice ta sts.length tc] 27)) w.heap.size (.int .i64 0) (.slice none 0 0) (.slice none 0 0)).kept KW2 (fun k e => by rw [e]; exact Nat.le_refl _)
    clear BR
    go_wp2_with fail
    (try simp only [Exit.inBlock, Exit.then])
    refine bodyPost_ret (v := .tuple #[.agg #[.int .i64 0, .slice none 0 0, .slice none 0 0], .int .i64 at9, .int .i64 er]) ?_ rfl ?_
    · rw [results_cell_tmp2 rfl]
      go_simp
    · rw [HP.out]
      exact ⟨none, 0, none, 0, rfl, AtH.nil _ _, AtT.nil _ _, t3⟩
  subst he
  obtain ⟨hok, hinv, hat9⟩ := HTK.out rfl
  subst hat9
  have hH2 := HAT.out _ (KB2.turns.mono (fun _ _ f => f.elim))
  have hck := scheck_any sL ha ta hc tc scs sts (w2.alloc (.cells #[.int .i64 sL, .slice ha scs.length hc, .slice ta sts.length tc] 27)) (HR.out.kept KW2) hH2.1 hH2.2 hok (by have := hinv.ts; simp only at this; omega) (by have := hinv.cs; simp only at this; omega)
  obtain ⟨q1, hq1⟩ : ∃ q, (checkS sL scs sts).1 = q := ⟨_, rfl⟩
  obtain ⟨q2, hq2⟩ : ∃ q, (checkS sL scs sts).2 = q := ⟨_, rfl⟩
  rw [hq1, hq2] at hck
  have HPQ : Hid (parseS l = if q2 = 0 then (⟨sL, sb, scs, sts⟩, 0, 0) else (zeroR, 0, q2)) := by show _ = _; rw [HPS.out, if_pos rfl, hq2]
  have x0 : (w2.alloc (.cells #[.int .i64 sL, .slice ha scs.length hc, .slice ta sts.length tc] 27)).cell? ⟨w2.heap.size, 0, none⟩ = some (.int .i64 sL) := BX0.cell 0 (by simp)
  have x1 : (w2.alloc (.cells #[.int .i64 sL, .slice ha scs.length hc, .slice ta sts.length tc] 27)).cell? ⟨w2.heap.size, 1, none⟩ = some (.slice ha scs.length hc) := BX0.cell 1 (by simp)
  have x2 : (w2.alloc (.cells #[.int .i64 sL, .slice ha scs.length hc, .slice ta sts.length tc] 27)).cell? ⟨w2.heap.size, 2, none⟩ = some (.slice ta sts.length tc) := BX0.cell 2 (by simp)
  clear hq1 hq2 hH2 HPS HTK hok hinv
  go_wp2_with fail
  refine hck.mono ?_
  rintro e w3 ⟨rfl, K3⟩
  have BX3 := BX0.kept K3
  have BR3 := BR2.kept K3
  have KW3 := KW2.trans K3
  have KB3 := KB2.trans K3
  clear hck BX0 BR2 x0 x1 x2 KB2 KW2 K3
  by_cases hq : q2 = 0
  rotate_left
  · have HP : Hid (parseS l = (zeroR, 0, q2)) := by show _ = _; rw [HPQ.out, if_neg hq]
    have e2 : (q2 != 0) = true := by simpa using hq
    have BR := BR3
    have p0 : w3.cell? ⟨w.heap.size, 0, none⟩ = some (.int .i64 0) := BR.cell 0 (by simp)
    have p1 : w3.cell? ⟨w.heap.size, 1, none⟩ = some (.slice none 0 0) := BR.cell 1 (by simp)
    have p2 : w3.cell? ⟨w.heap.size, 2, none⟩ = some (.slice none 0 0) := BR.cell 2 (by simp)
    have pf0 := BR.frozen 0
    have pf1 := BR.frozen 1
    have pf2 := BR.frozen 2
    have pl := BR.lt.2
    clear BR3
    have t3 := (turn_set3 w3 w.heap.size (.int .i64 0) (.slice none 0 0) (.slice none 0 0)).kept KW3 (fun k e => by rw [e]; exact Nat.le_refl _)
    clear BR
    go_wp2_with fail
    (try simp only [Exit.inBlock, Exit.then])
    refine bodyPost_ret (v := .tuple #[.agg #[.int .i64 0, .slice none 0 0, .slice none 0 0], .int .i64 0, .int .i64 q2]) ?_ rfl ?_
    · rw [results_cell_tmp2 rfl]
      go_simp
    · rw [HP.out]
      exact ⟨none, 0, none, 0, rfl, AtH.nil _ _, AtT.nil _ _, t3⟩
  subst hq
  have HP : Hid (parseS l = (⟨sL, sb, scs, sts⟩, 0, 0)) := by show _ = _; rw [HPQ.out, if_pos rfl]
  have BR := BR3
  have x0 : w3.cell? ⟨w2.heap.size, 0, none⟩ = some (.int .i64 sL) := BX3.cell 0 (by simp)
  have x1 : w3.cell? ⟨w2.heap.size, 1, none⟩ = some (.slice ha scs.length hc) := BX3.cell 1 (by simp)
  have x2 : w3.cell? ⟨w2.heap.size, 2, none⟩ = some (.slice ta sts.length tc) := BX3.cell 2 (by simp)
  have p0 : w3.cell? ⟨w.heap.size, 0, none⟩ = some (.int .i64 0) := BR.cell 0 (by simp)
  have p1 : w3.cell? ⟨w.heap.size, 1, none⟩ = some (.slice none 0 0) := BR.cell 1 (by simp)
  have p2 : w3.cell? ⟨w.heap.size, 2, none⟩ = some (.slice none 0 0) := BR.cell 2 (by simp)
  have pf0 := BR.frozen 0
  have pf1 := BR.frozen 1
  have pf2 := BR.frozen 2
  have pl := BR.lt.2
  have ts3 := turn_set3 w3 w.heap.size (.int .i64 sL) (.slice ha scs.length hc) (.slice ta sts.length tc)
  have t3 := ts3.kept KW3 (fun k e => by rw [e]; exact Nat.le_refl _)
  have hfin := HAT.out _ ((KB3.turns.mono (fun _ _ f => f.elim)).trans (ts3.mono (fun k _ e => by have e' : k = w.heap.size := e; show k < w1.heap.size; omega)))
  have HFIN : Hid (AtH (((w3.setCell ⟨w.heap.size, 0, none⟩ (.int .i64 sL)).setCell ⟨w.heap.size, 1, none⟩ (.slice ha scs.length hc)).setCell ⟨w.heap.size, 2, none⟩ (.slice ta sts.length tc)) ha scs ∧ AtT (((w3.setCell ⟨w.heap.size, 0, none⟩ (.int .i64 sL)).setCell ⟨w.heap.size, 1, none⟩ (.slice ha scs.length hc)).setCell ⟨w.heap.size, 2, none⟩ (.slice ta sts.length tc)) ta sts) := hfin
  clear BR BR3 BX3 ts3 hfin HPQ
  go_wp2_with fail
  (try simp only [Exit.inBlock, Exit.then])
  refine bodyPost_ret (v := .tuple #[.agg #[.int .i64 sL, .slice ha scs.length hc, .slice ta sts.length tc], .int .i64 0, .int .i64 0]) ?_ rfl ?_
  · rw [results_cell_tmp2 rfl]
    go_simp
  · rw [HP.out]
    exact ⟨ha, hc, ta, tc, rfl, HFIN.out.1, HFIN.out.2, t3⟩
end Go.Proofs.YtolljdomnohmdabGreatDoor
namespace Go.Proofs.YtolljdomnohmdabGreatDoor
open Go.RowKit

theorem putL_snoc (a : List (List UInt8)) (x : List UInt8) : putL (a ++ [x]) = putL a ++ (x ++ [10]) := by rw [putL_app]; simp [putL]
theorem add_line (a : List (List UInt8)) (x : List UInt8) : B (putL a) ++ B (x ++ [10]) = B (putL (a ++ [x])) := by rw [B_add, putL_snoc]
theorem putL_len : ∀ ls : List (List UInt8), (∀ x ∈ ls, x.length ≤ 1000) → (putL ls).length ≤ ls.length * 1001
  | [], _ => by simp [putL]
  | x :: r, h => by
    have ih := putL_len r (fun y hy => h y (List.mem_cons_of_mem _ hy))
    have h1 := h x (List.mem_cons_self ..)
    rw [putL_cons]
    simp only [List.length_append, List.length_cons, List.length_nil]
    omega
theorem linT_few {b c a : Nat} (hb : b ≤ 9) (hc : c ≤ 50) (ha : a ≤ 13) : (linT b c a).length ≤ 100 := by
  cases a with
  | zero => simp [linT, linC]; omega
  | succ a => rw [linT_len]; omega
theorem linT_put {b c a : Nat} (hb : b ≤ 9) (hc : c ≤ 50) (ha : a ≤ 13) : (putL (linT b c a)).length ≤ 110000 := by
  have h1 := putL_len (linT b c a) linT_short
  have h2 := linT_few hb hc ha
  omega
theorem linC_T (b c : Nat) : linT b c 0 = linC b := by simp [linT]
theorem linC_put {j : Nat} (hj : j ≤ 9) : (putL (linC j)).length ≤ 110000 := by
  rw [← linC_T j 0]
  exact linT_put hj (by omega) (by omega)
/-- Behind the first task's line: j of its runs. -/
def linR (b j : Nat) : List (List UInt8) := linC b ++ tkLn 0 :: List.replicate j rnLn
theorem linR_0 (b c : Nat) : linT b c 0 ++ [tkLn 0] = linR b 0 := by rw [linC_T]; rfl
theorem linR_next (b j : Nat) : linR b j ++ [rnLn] = linR b (j + 1) := by
  unfold linR
  rw [List.replicate_succ', List.append_assoc]
  rfl
theorem linR_c (b c : Nat) : linR b c = linT b c 1 := by
  rw [linT_next, linC_T]
  rfl
theorem linR_put {b j : Nat} (hb : b ≤ 9) (hj : j ≤ 50) : (putL (linR b j)).length ≤ 110000 := by
  rw [linR_c]
  exact linT_put hb hj (by omega)
theorem linT_more (b c i : Nat) (hi : i ≠ 0) : (linT b c i ++ [tkLn i]) ++ [rnLn] = linT b c (i + 1) := by
  rw [linT_next, List.append_assoc]
  unfold lnG
  rw [if_neg hi]
  rfl
theorem put_task {b c i : Nat} (hb : b ≤ 9) (hc : c ≤ 50) (ha : i ≤ 12) : (putL (linT b c i ++ [tkLn i])).length ≤ 120000 := by
  have h := linT_put (a := i) hb hc (by omega)
  rw [putL_snoc, List.length_append]
  simp [tkLn]
  omega
theorem parse_c {c a : Nat} (ha : a ≤ 13) : parseS (putL (linT 9 c a)) = (zeroR, 9, 4) := by
  have e : linT 9 c a = linC 8 ++ chLn :: (List.range a).flatMap (lnG c) := by
    unfold linT
    rw [linC_next, List.append_assoc]
    rfl
  have hb := linT_bytes (b := 9) (c := c) ha
  rw [e] at hb ⊢
  exact parse_err (read_C (by omega)) full_c hb
theorem parse_o {b c a : Nat} (hb : b ≤ 8) (hc : 48 < c) (ha : a + 1 ≤ 13) : parseS (putL (linT b c (a + 1))) = (zeroR, 1 + b + 49, 4) := by
  obtain ⟨k, rfl⟩ : ∃ k, c = 48 + (k + 1) := ⟨c - 49, by omega⟩
  have e : linT b (48 + (k + 1)) (a + 1) = linT b 48 1 ++ rnLn :: (List.replicate k rnLn ++ ((List.range a).map Nat.succ).flatMap (lnG (48 + (k + 1)))) := by
    rw [← linR_c]
    unfold linT linR
    rw [List.range_succ_eq_map, List.flatMap_cons]
    unfold lnG
    rw [if_pos rfl, ← List.replicate_append_replicate, show List.replicate (k + 1) rnLn = rnLn :: List.replicate k rnLn from rfl]
    simp only [List.append_assoc, List.cons_append]
  have hbb := linT_bytes (b := b) (c := 48 + (k + 1)) ha
  rw [e] at hbb ⊢
  have h := parse_err (read_T (a := 1) hb (Nat.le_refl 48) (by omega)) (full_o b (by omega)) hbb
  rw [h, linT_len]
theorem parse_t {b c : Nat} (hb : b ≤ 8) (hc : c ≤ 48) : parseS (putL (linT b c 13)) = (zeroR, 1 + b + 1 + c + 22, 4) := by
  have e : linT b c 13 = linT b c 12 ++ tkLn 12 :: [rnLn] := by
    rw [← linT_more b c 12 (by decide), List.append_assoc]
    rfl
  have hbb := linT_bytes (b := b) (c := c) (Nat.le_refl 13)
  rw [e] at hbb ⊢
  have h := parse_err (read_T hb hc (Nat.le_refl 12)) (full_t b c) hbb
  rw [h, linT_len]
theorem parse_k {b c a : Nat} (hb : b ≤ 8) (hc : c + 1 ≤ 48) (ha : a + 1 ≤ 12) : parseS (putL (linT b (c + 1) (a + 1))) = (⟨0, true, chsG b, tsksG (c + 1) (a + 1)⟩, 0, 0) := by
  rw [parse_lines (linT_bytes (by omega)) (linT_ne _ _ _), read_T hb hc ha]
  simp only
  rw [if_pos trivial, if_pos (checks_ok a (by omega) b (by omega) c (by omega))]
theorem lines_T {b c a : Nat} (hb : b ≤ 9) (hc : c ≤ 50) (ha : a ≤ 13) : (putL (linT b c a)).length ≤ 1000000 ∧ (linesOf (putL (linT b c a))).length ≤ 100000 ∧ ∀ x ∈ linesOf (putL (linT b c a)), x.length ≤ 1000 := by
  rw [lines_putL _ (linT_bytes ha)]
  exact ⟨by have := linT_put hb hc ha; omega, by have := linT_few hb hc ha; omega, linT_short⟩
theorem sameCs_self : ∀ cs : List ChanD, sameCs cs cs = true
  | [] => rfl
  | c :: r => by
    have ih := sameCs_self r
    simp [sameCs, sameH, ih]
theorem sameP_self : ∀ p : List OpD, sameP p p = true
  | [] => rfl
  | o :: r => by
    have ih := sameP_self r
    simp [sameP, sameD_self, ih]
theorem sameTs_self : ∀ ts : List TaskD, sameTs ts ts = true
  | [] => rfl
  | t :: r => by
    have ih := sameTs_self r
    simp [sameTs, sameT, sameP_self, ih]
theorem sameS_self (L : Int) (cs : List ChanD) (ts : List TaskD) : sameS L cs ts L cs ts = true := by simp [sameS, sameCs_self, sameTs_self]
theorem tsksG_len (c a : Nat) : (tsksG c a).length = a := by simp [tsksG]
theorem chsG_len (b : Nat) : (chsG b).length = b := by simp [chsG]
theorem tsksG_ok {c a : Nat} (hc : c ≤ 50) : TsOk (tsksG c a) := by
  intro t ht
  obtain ⟨j, hj, rfl⟩ := List.mem_map.1 ht
  refine ⟨by simp [tskG], by simp only [tskG, List.length_replicate]; split <;> omega, fun o ho => ?_⟩
  rw [(List.mem_replicate.1 ho).2]
  simp [run1]
theorem tsksG_get (c a : Nat) : (tsksG c (a + 1))[0]? = some (tskG c 0) := by
  unfold tsksG
  rw [List.range_succ_eq_map]
  rfl
theorem prog_get {c k : Nat} (hk : k < c) : (tskG c 0).prog[k]? = some run1 := by
  simp [tskG, hk]
theorem prog_len (c : Nat) : (tskG c 0).prog.length = c := by simp [tskG]
end Go.Proofs.YtolljdomnohmdabGreatDoor

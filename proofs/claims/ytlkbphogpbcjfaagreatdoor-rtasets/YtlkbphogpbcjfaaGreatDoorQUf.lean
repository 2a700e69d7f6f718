/- appendCopies. Match. unroll. Flat, Section, Waits. -/
import Derived.Deep.LoopGhost
import Derived.Test.YtlkbphogpbcjfaaGreatDoorQCk
import Derived.Test.YtlkbphogpbcjfaaGreatDoorQbase
import Derived.Test.YtlkbphogpbcjfaaGreatDoorQTm
namespace Go.Proofs.YtlkbphogpbcjfaaGreatDoor
open Go.RowKit

set_option maxHeartbeats 4000000 in
set_option maxRecDepth 10000 in
theorem copies_any (B : Nat) (v1 : Value) (p : List OpD) (a : Option Addr) (c : Nat) (r : List OpD) (w : World) (h1 : ∃ svs, ORow B w v1 p svs) (hA : ∀ w', Turns (fun k => v1.ownBlock = some k) w w' → AtP w' a r) (hC : ∀ o ∈ r, o.cases.length ≤ 1000000) (hl : p.length + r.length ≤ 1000000) (hB : B ≤ w.heap.size) :
    Calls Tryz.prog 93 #[v1, .slice a r.length c] w fun e w' => ∃ v, e = .returned v ∧ (∃ svs, ORow B w' v (p ++ r) svs) ∧ (v.ownBlock = v1.ownBlock ∨ ∀ q, v.ownBlock = some q → w.heap.size ≤ q) ∧ Turns (fun k => v1.ownBlock = some k) w w' := by
  have HA : Hid (∀ w', Turns (fun k => v1.ownBlock = some k) w w' → AtP w' a r) := hA
  have HC : Hid (∀ o ∈ r, o.cases.length ≤ 1000000) := hC
  have M0 : Hid (Cp B v1 w w v1 (p ++ r.take 0)) := ⟨by simpa using h1, .inl rfl, Turns.refl _ _⟩
  clear hA hC h1
  go_enter Tryz.func93, Tryz.ntmps93
  go_wp2_with fail
  go_loopg [0, 9] r.length (fun gk x0 i wr => ∃ (j : Nat) (vj : Value), vj = x0 ∧ i = .int .i64 j ∧ j + gk = r.length ∧ Hid (Cp B v1 w wr vj (p ++ r.take j)))
  case atStart => exact ⟨0, v1, rfl, rfl, by omega, M0⟩
  case round =>
    obtain ⟨j, vj, hx0, rfl, hj, HM⟩ := hrel
    subst hx0
    by_cases hjr : j < r.length
    · have hat0 := HA.out wr HM.out.trn
      obtain ⟨b, f, k, n, v, wt, l, ca, cc, rfl, hpj, g0, g1, g2, g3, g4, hcc, hat, hbl, hdr⟩ := hat0.get j hjr
      have hnn := hat0.nil0 hpj g4
      have b1 : (j : Int) < (r.length : Int) := by omega
      have b2 : (0 : Int) ≤ (j : Int) := by omega
      have hll : l.length ≤ 1000000 := HC.out _ (List.mem_of_getElem? hpj)
      obtain ⟨svs, hrow⟩ := HM.out.row
      have HROW : Hid (ORow B wr vj (p ++ r.take j) svs) := hrow
      have HN : Hid (p ++ r.take (j + 1) = (p ++ r.take j) ++ [⟨k, n, v, wt, l⟩]) := take_snoc hpj p
      have hlt : (p ++ r.take j).length ≤ 1000000 := by rw [List.length_append, List.length_take]; omega
      have HBs : Hid (B ≤ wr.heap.size) := by show _ ≤ _; have := HM.out.trn.size; omega
      have KA := (Kept.refl wr).alloc (.cells #[.int .i64 k, .int .i64 n, .int .i64 v, .int .i64 wt, .slice ca l.length cc] 77)
      have BO := box_new wr.heap.size wr 77 [.int .i64 k, .int .i64 n, .int .i64 v, .int .i64 wt, .slice ca l.length cc] (Nat.le_refl _) (by simp)
      have hsz : (wr.alloc (.cells #[.int .i64 k, .int .i64 n, .int .i64 v, .int .i64 wt, .slice ca l.length cc] 77)).heap.size = wr.heap.size + 1 := by simp
      have hatA := hat.kept KA
      obtain ⟨g3', rfl⟩ : ∃ g, gk = g + 1 := ⟨gk - 1, by omega⟩
      clear hpj hdr hat hat0 hrow
      go_wp2_with (at_builtin; first | (refine wpList_append_op _ (by rfl) _ _ rfl B vj (p ++ r.take j) svs k n v wt l (.slice sa l.length sc) (w2.setCell ⟨wr.heap.size, 4, none⟩ (.slice sa l.length sc)) (by rfl) (by rfl) w2.heap.size (by simp [World.setCell]) (by rfl) P3.1 P3.2.1 P3.2.2.1 hlt P3.2.2.2 ?_; intro g5 c5 w5 R5 t5 hg5; have M5 := HM.out.next (KA.trans K2) (Nat.le_refl _) t5 hg5 R5; rw [← HN.out] at M5) | (refine wpList_copy_cases _ (by rfl) _ _ rfl ca cc l (by rfl) (by rfl) hnn hatA hll ?_; intro sv w2 R2 K2; obtain ⟨sa, sc, hsv, _, _⟩ := R2.at; subst hsv; rw [hsz] at R2; have BO2 := BO.kept K2; have o0 : w2.cell? ⟨wr.heap.size, 0, none⟩ = some (.int .i64 k) := BO2.cell 0 (by simp); have o1 : w2.cell? ⟨wr.heap.size, 1, none⟩ = some (.int .i64 n) := BO2.cell 1 (by simp); have o2 : w2.cell? ⟨wr.heap.size, 2, none⟩ = some (.int .i64 v) := BO2.cell 2 (by simp); have o3 : w2.cell? ⟨wr.heap.size, 3, none⟩ = some (.int .i64 wt) := BO2.cell 3 (by simp); have o4 : w2.cell? ⟨wr.heap.size, 4, none⟩ = some (.slice ca l.length cc) := BO2.cell 4 (by simp); have of4 := BO2.frozen 4; have ol := BO2.lt.2; have P3 := cop_mid HROW.out HBs.out (KA.trans K2) R2) | fail)
      go_roundg g3'
      case rel =>
        rw [List.length_append, List.length_take] at M5
        exact ⟨j + 1, _, rfl, by go_num, by omega, M5⟩
      case measure => omega
    · have b1 : ¬ (j : Int) < (r.length : Int) := by omega
      have e : p ++ r.take j = p ++ r := by rw [List.take_of_length_le (by omega)]
      go_wp2_with fail
      go_ret
      have h := HM.out
      rw [e] at h
      exact ⟨_, rfl, h.row, h.old, h.trn⟩
end Go.Proofs.YtlkbphogpbcjfaaGreatDoor
namespace Go.Proofs.YtlkbphogpbcjfaaGreatDoor
open Go.RowKit

set_option maxHeartbeats 4000000 in
theorem match_any (a : Option Addr) (c : Nat) (p : List OpD) (i : Int) (w : World) (hA : AtP w a p) (hp : p.length ≤ 100000) (hi : -9223372036854775808 ≤ i ∧ i ≤ 9223372036854775807) :
    Calls Tryz.prog 92 #[.slice a p.length c, .int .i64 i] w fun e w' => e = .returned (.int .i64 (matchD p i)) ∧ w' = w := by
  have HA : Hid (AtP w a p) := hA
  clear hA
  by_cases h0 : i < 0
  · have HD : Hid (matchD p i = -1) := by show _ = _; unfold matchD; rw [if_pos (.inl h0)]
    have b1 : decide (i < 0) = true := decide_eq_true h0
    go_enter Tryz.func92, Tryz.ntmps92
    go_wp2_with fail
    go_step3
    go_wp2_with fail
    try rw [Exit.noGoto_ret]
    go_ret
    rw [HD.out]
    exact ⟨rfl, rfl⟩
  · by_cases hn : (p.length : Int) ≤ i
    · have HD : Hid (matchD p i = -1) := by show _ = _; unfold matchD; rw [if_pos (.inr hn)]
      have b2 : i ≥ (p.length : Int) := hn
      go_enter Tryz.func92, Tryz.ntmps92
      go_wp2_with fail
      go_step3
      go_wp2_with fail
      try rw [Exit.noGoto_ret]
      go_ret
      rw [HD.out]
      exact ⟨rfl, rfl⟩
    · obtain ⟨q, rfl⟩ : ∃ q : Nat, i = (q : Int) := ⟨i.toNat, by omega⟩
      have hq : q < p.length := by omega
      have b1 : (q : Int) < (p.length : Int) := by omega
      have b2 : ¬ (q : Int) ≥ (p.length : Int) := by omega
      have b3 : (0 : Int) ≤ (q : Int) := by omega
      obtain ⟨b, f, k, n, v, wt, l, ca, cc, rfl, hpj, g0, g1, g2, g3, g4, hcc, hat, hbl, hdr⟩ := HA.out.get q hq
      have HD : Hid (matchD p q = if k = 8 then fwdGo 0 q (p.drop q) else if k = 9 then bwdGo 0 q (p.take (q + 1)).reverse else -1) := by
        show _ = _
        unfold matchD
        rw [if_neg (by omega), show (q : Int).toNat = q from rfl, hpj]
      clear hdr hpj h0 hn hi
      by_cases h8 : k = 8
      · subst h8
        have HD2 : Hid (matchD p q = fwdGo 0 q (p.drop q)) := by show _ = _; rw [HD.out, if_pos rfl]
        clear HD
        go_enter Tryz.func92, Tryz.ntmps92
        go_wp2_with fail
        go_step3
        go_wp2_with fail
        go_step3
        go_wp2_with fail
        go_loopg [6, 7, 8] p.length (fun gk d mt i wr => ∃ (j : Nat) (dv : Int), i = .int .i64 j ∧ d = .int .i64 dv ∧ mt = .int .i64 (-1) ∧ j + gk = q + p.length ∧ -(j : Int) ≤ dv ∧ dv ≤ (j : Int) ∧ Hid (matchD p q = fwdGo dv j (p.drop j)) ∧ wr = w)
        case atStart => exact ⟨q, 0, rfl, rfl, rfl, by omega, by omega, by omega, HD2, rfl⟩
        case round =>
          obtain ⟨j, dv, rfl, rfl, rfl, hg, hd1, hd2, HE, hw⟩ := hrel
          subst wr
          by_cases hjp : j < p.length
          · obtain ⟨g3', rfl⟩ : ∃ g, gk = g + 1 := ⟨gk - 1, by omega⟩
            have c1 : (j : Int) < (p.length : Int) := by omega
            have c2 : (0 : Int) ≤ (j : Int) := by omega
            have c3 : (j : Int) ≥ 0 := c2
            obtain ⟨b', f', k, n, v, wt, l, ca', cc', hab, hpj, g0', g1', g2', g3k, g4', hcc', hat', hbl', hdr⟩ := HA.out.get j hjp
            obtain ⟨rfl, rfl⟩ : b = b' ∧ f = f' := by cases hab; exact ⟨rfl, rfl⟩
            have HG : Hid (matchD p q = fwdGo dv j (⟨k, n, v, wt, l⟩ :: p.drop (j + 1))) := by show _ = _; rw [HE.out, hdr]
            clear hdr hpj hat' hab HE
            by_cases h8 : k = 8
            · subst h8
              by_cases hz : dv + 1 = 0
              · have HR : Hid (matchD p q = (j : Int)) := by show _ = _; rw [HG.out, fwdGo, dK8, if_pos (by omega)]
                have hz1 : (dv + 1 == 0) = true := beq_iff_eq.2 hz
                clear HG
                go_wp2_with fail
                try rw [Exit.noGoto_ret]
                go_ret
                rw [HR.out]
                exact ⟨rfl, rfl⟩
              · have HR : Hid (matchD p q = fwdGo (dv + 1) (j + 1) (p.drop (j + 1))) := by show _ = _; rw [HG.out, fwdGo, dK8, if_neg (by omega)]
                have hz1 : (dv + 1 == 0) = false := beq_eq_false_iff_ne.2 hz
                clear HG
                go_wp2_with fail
                go_roundg g3'
                case rel => exact ⟨j + 1, dv + 1, by go_num, by go_num, rfl, by omega, by omega, by omega, HR, rfl⟩
                case measure => omega
            · have k8 : (k == 8) = false := beq_eq_false_iff_ne.2 h8
              by_cases h9 : k = 9
              · subst h9
                by_cases hz : dv - 1 = 0
                · have HR : Hid (matchD p q = (j : Int)) := by show _ = _; rw [HG.out, fwdGo, dK9, if_pos (by omega)]
                  have hz1 : (dv - 1 == 0) = true := beq_iff_eq.2 hz
                  clear HG
                  go_wp2_with fail
                  try rw [Exit.noGoto_ret]
                  go_ret
                  rw [HR.out]
                  exact ⟨rfl, rfl⟩
                · have HR : Hid (matchD p q = fwdGo (dv - 1) (j + 1) (p.drop (j + 1))) := by show _ = _; rw [HG.out, fwdGo, dK9, if_neg (by omega)]; rfl
                  have hz1 : (dv - 1 == 0) = false := beq_eq_false_iff_ne.2 hz
                  clear HG
                  go_wp2_with fail
                  go_roundg g3'
                  case rel => exact ⟨j + 1, dv - 1, by go_num, by go_num, rfl, by omega, by omega, by omega, HR, rfl⟩
                  case measure => omega
              · have k9 : (k == 9) = false := beq_eq_false_iff_ne.2 h9
                have HK0 : Hid (dK ⟨k, n, v, wt, l⟩ = 0) := dKo h8 h9
                by_cases hz : dv = 0
                · have HR : Hid (matchD p q = (j : Int)) := by show _ = _; rw [HG.out, fwdGo, HK0.out, if_pos (by omega)]
                  have hz1 : (dv == 0) = true := beq_iff_eq.2 hz
                  clear HG
                  go_wp2_with fail
                  try rw [Exit.noGoto_ret]
                  go_ret
                  rw [HR.out]
                  exact ⟨rfl, rfl⟩
                · have HR : Hid (matchD p q = fwdGo (dv) (j + 1) (p.drop (j + 1))) := by show _ = _; rw [HG.out, fwdGo, HK0.out, if_neg (by omega)]; simp
                  have hz1 : (dv == 0) = false := beq_eq_false_iff_ne.2 hz
                  clear HG
                  go_wp2_with fail
                  go_roundg g3'
                  case rel => exact ⟨j + 1, dv, by go_num, by go_num, rfl, by omega, by omega, by omega, HR, rfl⟩
                  case measure => omega
          · have c1 : ¬ (j : Int) < (p.length : Int) := by omega
            have c3 : (j : Int) ≥ 0 := by omega
            have HR : Hid (matchD p q = -1) := by show _ = _; rw [HE.out, List.drop_eq_nil_of_le (by omega)]; rfl
            go_wp2_with fail
            try rw [Exit.noGoto_ret]
            go_ret
            rw [HR.out]
            exact ⟨rfl, rfl⟩
      · have k8 : (k == 8) = false := beq_eq_false_iff_ne.2 h8
        by_cases h9 : k = 9
        · subst h9
          have HD2 : Hid (matchD p q = bwdGo 0 (((q + 1 : Nat) : Int) - 1) (p.take (q + 1)).reverse) := by show _ = _; rw [HD.out, if_neg h8, if_pos rfl, show (((q + 1 : Nat) : Int) - 1) = (q : Int) by omega]
          clear HD
          go_enter Tryz.func92, Tryz.ntmps92
          go_wp2_with fail
          go_step3
          go_wp2_with fail
          go_step3
          go_wp2_with fail
          go_loopg [6, 7, 8] (q + 1) (fun gk d mt i wr => ∃ (j : Nat) (dv : Int), i = .int .i64 ((j : Int) - 1) ∧ d = .int .i64 dv ∧ mt = .int .i64 (-1) ∧ j ≤ gk ∧ -(100000 - (j : Int)) ≤ dv ∧ dv ≤ 100000 - (j : Int) ∧ Hid (j ≤ q + 1 ∧ matchD p q = bwdGo dv ((j : Int) - 1) (p.take j).reverse) ∧ wr = w)
          case atStart => exact ⟨q + 1, 0, by go_num, rfl, rfl, by omega, by omega, by omega, ⟨by omega, HD2.out⟩, rfl⟩
          case round =>
            obtain ⟨j, dv, rfl, rfl, rfl, hg, hd1, hd2, HE0, hw⟩ := hrel
            subst wr
            have hjq := HE0.out.1
            cases j with
            | zero =>
              have HR : Hid (matchD p q = -1) := by show _ = _; rw [HE0.out.2]; rfl
              go_wp2_with fail
              try rw [Exit.noGoto_ret]
              go_ret
              rw [HR.out]
              exact ⟨rfl, rfl⟩
            | succ j =>
              have hjp : j < p.length := by omega
              have HE : Hid (matchD p q = bwdGo dv (((j + 1 : Nat) : Int) - 1) (p.take (j + 1)).reverse) := HE0.out.2
              clear HE0
              obtain ⟨g3', rfl⟩ : ∃ g, gk = g + 1 := ⟨gk - 1, by omega⟩
              rw [show (((j + 1 : Nat) : Int) - 1) = (j : Int) by omega]
              have c1 : (j : Int) < (p.length : Int) := by omega
              have c2 : (0 : Int) ≤ (j : Int) := by omega
              have c3 : (j : Int) ≥ 0 := c2
              obtain ⟨b', f', k, n, v, wt, l, ca', cc', hab, hpj, g0', g1', g2', g3k, g4', hcc', hat', hbl', hdr⟩ := HA.out.get j hjp
              obtain ⟨rfl, rfl⟩ : b = b' ∧ f = f' := by cases hab; exact ⟨rfl, rfl⟩
              have HG : Hid (matchD p q = bwdGo dv (j : Int) (⟨k, n, v, wt, l⟩ :: (p.take j).reverse)) := by show _ = _; rw [HE.out, take_rev hpj, show (((j + 1 : Nat) : Int) - 1) = (j : Int) by omega]
              clear hdr hpj hat' hab HE
              by_cases h8 : k = 8
              · subst h8
                by_cases hz : dv + 1 = 0
                · have HR : Hid (matchD p q = (j : Int)) := by show _ = _; rw [HG.out, bwdGo, dK8, if_pos (by omega)]
                  have hz1 : (dv + 1 == 0) = true := beq_iff_eq.2 hz
                  clear HG
                  go_wp2_with fail
                  try rw [Exit.noGoto_ret]
                  go_ret
                  rw [HR.out]
                  exact ⟨rfl, rfl⟩
                · have HR : Hid (matchD p q = bwdGo (dv + 1) ((j : Int) - 1) (p.take j).reverse) := by show _ = _; rw [HG.out, bwdGo, dK8, if_neg (by omega)]
                  have hz1 : (dv + 1 == 0) = false := beq_eq_false_iff_ne.2 hz
                  clear HG
                  go_wp2_with fail
                  go_roundg g3'
                  case rel => exact ⟨j, dv + 1, by go_num, by go_num, rfl, by omega, by omega, by omega, ⟨by omega, HR.out⟩, rfl⟩
                  case measure => omega
              · have k8 : (k == 8) = false := beq_eq_false_iff_ne.2 h8
                by_cases h9 : k = 9
                · subst h9
                  by_cases hz : dv - 1 = 0
                  · have HR : Hid (matchD p q = (j : Int)) := by show _ = _; rw [HG.out, bwdGo, dK9, if_pos (by omega)]
                    have hz1 : (dv - 1 == 0) = true := beq_iff_eq.2 hz
                    clear HG
                    go_wp2_with fail
                    try rw [Exit.noGoto_ret]
                    go_ret
                    rw [HR.out]
                    exact ⟨rfl, rfl⟩
                  · have HR : Hid (matchD p q = bwdGo (dv - 1) ((j : Int) - 1) (p.take j).reverse) := by show _ = _; rw [HG.out, bwdGo, dK9, if_neg (by omega)]; rfl
                    have hz1 : (dv - 1 == 0) = false := beq_eq_false_iff_ne.2 hz
                    clear HG
                    go_wp2_with fail
                    go_roundg g3'
                    case rel => exact ⟨j, dv - 1, by go_num, by go_num, rfl, by omega, by omega, by omega, ⟨by omega, HR.out⟩, rfl⟩
                    case measure => omega
                · have k9 : (k == 9) = false := beq_eq_false_iff_ne.2 h9
                  have HK0 : Hid (dK ⟨k, n, v, wt, l⟩ = 0) := dKo h8 h9
                  by_cases hz : dv = 0
                  · have HR : Hid (matchD p q = (j : Int)) := by show _ = _; rw [HG.out, bwdGo, HK0.out, if_pos (by omega)]
                    have hz1 : (dv == 0) = true := beq_iff_eq.2 hz
                    clear HG
                    go_wp2_with fail
                    try rw [Exit.noGoto_ret]
                    go_ret
                    rw [HR.out]
                    exact ⟨rfl, rfl⟩
                  · have HR : Hid (matchD p q = bwdGo (dv) ((j : Int) - 1) (p.take j).reverse) := by show _ = _; rw [HG.out, bwdGo, HK0.out, if_neg (by omega)]; simp
                    have hz1 : (dv == 0) = false := beq_eq_false_iff_ne.2 hz
                    clear HG
                    go_wp2_with fail
                    go_roundg g3'
                    case rel => exact ⟨j, dv, by go_num, by go_num, rfl, by omega, by omega, by omega, ⟨by omega, HR.out⟩, rfl⟩
                    case measure => omega
        · have HD2 : Hid (matchD p q = -1) := by show _ = _; rw [HD.out, if_neg h8, if_neg h9]
          have k9 : (k == 9) = false := beq_eq_false_iff_ne.2 h9
          go_enter Tryz.func92, Tryz.ntmps92
          go_wp2_with fail
          go_step3
          go_wp2_with fail
          try rw [Exit.noGoto_ret]
          go_ret
          rw [HD2.out]
          exact ⟨rfl, rfl⟩
end Go.Proofs.YtlkbphogpbcjfaaGreatDoor
namespace Go.Proofs.YtlkbphogpbcjfaaGreatDoor
open Go.RowKit

set_option maxHeartbeats 8000000 in
set_option maxRecDepth 10000 in
theorem unroll_step (d m m' : Nat) (p f : List OpD) (a : Option Addr) (c : Nat) (w : World) (hbal : Bal d m m' p f) (hA : AtP w a p) (hcap : p.length ≤ c) (hc : ∀ o ∈ p, checkD o = 0) (hp : p.length ≤ 1000) (hf : f.length ≤ 100000)
    (ih : ∀ (d' m m' : Nat) (p f : List OpD) (a : Option Addr) (c : Nat) (w : World), d = d' + 1 → Bal d' m m' p f → AtP w a p → p.length ≤ c → (∀ o ∈ p, checkD o = 0) → p.length ≤ 1000 → f.length ≤ 100000 →
      Calls Tryz.prog 76 #[.slice a p.length c] w fun e w' => ∃ v, e = .returned v ∧ (∃ svs, ORow w.heap.size w' v f svs) ∧ Kept w w') :
    Calls Tryz.prog 76 #[.slice a p.length c] w fun e w' => ∃ v, e = .returned v ∧ (∃ svs, ORow w.heap.size w' v f svs) ∧ Kept w w' := by
  have HA : Hid (AtP w a p) := hA
  have HC : Hid (∀ o ∈ p, checkD o = 0) := hc
  have HIH : Hid (∀ (d' m m' : Nat) (p f : List OpD) (a : Option Addr) (c : Nat) (w : World), d = d' + 1 → Bal d' m m' p f → AtP w a p → p.length ≤ c → (∀ o ∈ p, checkD o = 0) → p.length ≤ 1000 → f.length ≤ 100000 → Calls Tryz.prog 76 #[.slice a p.length c] w fun e w' => ∃ v, e = .returned v ∧ (∃ svs, ORow w.heap.size w' v f svs) ∧ Kept w w') := ih
  have M0 : Hid (∃ svs, ORow w.heap.size w (.slice none 0 0) [] svs) := ⟨[], ORow.nil _ _⟩
  have HB0 : Hid (∃ mj f2, Bal d mj m' (p.drop 0) f2 ∧ f = [] ++ f2) := ⟨m, f, by rw [List.drop_zero]; exact hbal, rfl⟩
  clear hA hc hbal ih
  go_enter Tryz.func76, Tryz.ntmps76
  go_wp2_with fail
  go_loopg [3, 4] p.length (fun gk x3 i wr => ∃ (j : Nat) (vd : Value) (F1 : List OpD), vd = x3 ∧ i = .int .i64 j ∧ p.length ≤ j + gk ∧ Hid (∃ mj f2, Bal d mj m' (p.drop j) f2 ∧ f = F1 ++ f2) ∧ Hid (∃ svs, ORow w.heap.size wr vd F1 svs) ∧ Kept w wr)
  case atStart => exact ⟨0, _, [], rfl, rfl, by omega, HB0, M0, Kept.refl w⟩
  case round =>
    obtain ⟨j, vd, F1, hx3, rfl, hj, HB, HM, K⟩ := hrel
    subst hx3
    obtain ⟨wo, rfl⟩ : ∃ z, z = wr := ⟨wr, rfl⟩
    by_cases hjp : j < p.length
    · obtain ⟨b, f0, k, n, v, wt, l, ca, cc, rfl, hpj, g0, g1, g2, g3, g4, hcc, hat, hbl, hdr⟩ := HA.out.get j hjp
      have c0 := K.cell g0
      have c1 := K.cell g1
      have b1 : (j : Int) < (p.length : Int) := by omega
      have b2 : (0 : Int) ≤ (j : Int) := by omega
      have b3 : (j : Int) ≤ (j : Int) + 1 := by omega
      have b4 : (j : Int) + 1 ≤ (c : Int) := by omega
      have b5 : (j : Int) ≤ (c : Int) := by omega
      have b6 : (j : Int) + 1 ≤ (p.length : Int) := by omega
      have hjc : ¬ j = c := by omega
      have HCK : Hid (checkD ⟨k, n, v, wt, l⟩ = 0) := HC.out _ (List.mem_of_getElem? hpj)
      obtain ⟨mj, f2, hb2, hff⟩ := HB.out
      rw [hdr] at hb2
      have HD : Hid (p.drop j = ⟨k, n, v, wt, l⟩ :: p.drop (j + 1)) := hdr
      have HPJ : Hid (p[j]? = some ⟨k, n, v, wt, l⟩) := hpj
      obtain ⟨g3', rfl⟩ : ∃ g, gk = g + 1 := ⟨gk - 1, by omega⟩
      have hbw : b < w.heap.size := hbl
      clear hpj hdr hat g2 g3 g4 hcc HB
      rcases bal_cons hb2 with ⟨h8, h9, m1, f', hf2, hb3⟩ | ⟨h8, d', bb, gg, ee, qq, f', hdd, hpp, h9, hf2, hbb, hb3⟩
      · simp only at h8
        have k8 : (k == 8) = false := beq_eq_false_iff_ne.2 h8
        have HB2 : Hid (∃ mj f2, Bal d mj m' (p.drop (j + 1)) f2 ∧ f = (F1 ++ [⟨k, n, v, wt, l⟩]) ++ f2) := ⟨m1, f', hb3, by rw [hff, hf2]; simp⟩
        have hlen : F1.length + 1 ≤ 1000000 := by
          have := congrArg List.length hff
          rw [hf2] at this
          simp at this
          omega
        have HSRC : Hid (∀ w', Turns (fun q => w.heap.size ≤ q) wo w' → AtP w' (some ⟨b, f0 + j * 5, none⟩) [⟨k, n, v, wt, l⟩]) := by
          intro w' t'
          have k' : Kept w w' := t'.kept K (fun i hi => hi)
          have h := ((HA.out.kept k').drop j).take 1
          rw [HD.out] at h
          exact h
        have HR0 : Hid (Rd w wo wo (fun q => w.heap.size ≤ q) vd (F1 ++ rep 0 [⟨k, n, v, wt, l⟩])) := ⟨by simpa [rep] using HM.out, fun q hq => by obtain ⟨svs, h⟩ := HM.out; exact (h.lt q hq).1, Turns.refl _ _⟩
        have HSS : Hid (∀ q, wo.heap.size ≤ q → w.heap.size ≤ q) := fun q hq => by have := K.size; omega
        clear hb2 hb3 hf2 hff h8 h9
        go_wp2_with fail
        go_loopg [3, 41] 1 (fun gk2 y3 cnt wr => ∃ (i : Nat) (vz : Value), vz = y3 ∧ cnt = .int .i64 i ∧ i + gk2 = 1 ∧ Hid (Rd w wo wr (fun q => w.heap.size ≤ q) vz (F1 ++ rep i [⟨k, n, v, wt, l⟩])))
        case atStart => exact ⟨0, vd, rfl, rfl, by omega, HR0⟩
        case round =>
          obtain ⟨i, vz, hy3, rfl, hi, HZ⟩ := hrel
          subst hy3
          have hii : i = 0 ∨ i = 1 := by omega
          rcases hii with rfl | rfl
          · have hco := copies_any w.heap.size vz (F1 ++ rep 0 [⟨k, n, v, wt, l⟩]) (some ⟨b, f0 + j * 5, none⟩) (c - j) [⟨k, n, v, wt, l⟩] wr HZ.out.row (HZ.out.src HSRC.out) (fun o ho => by rw [List.mem_singleton.1 ho]; exact op_few HCK.out) (by simp [rep]; omega) (by have := HZ.out.trn.size; have := K.size; omega)
            rw [show ([⟨k, n, v, wt, l⟩] : List OpD).length = 1 from rfl] at hco
            go_wp2_with fail
            refine hco.mono ?_
            rintro e w5 ⟨v5, rfl, r5, o5, t5⟩
            have M5 : Hid (Rd w wo w5 (fun q => w.heap.size ≤ q) v5 (F1 ++ rep 1 [⟨k, n, v, wt, l⟩])) := by
              rw [rep_succ, ← List.append_assoc]
              exact HZ.out.next HSS.out r5 o5 t5
            go_wp2_with fail
            go_roundg 0
            case rel => exact ⟨1, v5, rfl, by go_num, by omega, M5⟩
            case measure => omega
          · have HM2 : Hid (∃ svs, ORow w.heap.size wr vz (F1 ++ [⟨k, n, v, wt, l⟩]) svs) := by
              have := HZ.out.row
              rw [rep_one] at this
              exact this
            have K2 : Kept w wr := HZ.out.trn.kept K (fun i hi => hi)
            go_wp2_with fail
            go_roundg g3'
            case rel => exact ⟨j + 1, vz, F1 ++ [⟨k, n, v, wt, l⟩], rfl, by go_num, by omega, HB2, HM2, K2⟩
            case measure => omega
      · simp only at h8
        subst h8
        obtain ⟨hn1, hn2⟩ := loop_n HCK.out
        obtain ⟨R, hR⟩ : ∃ R : Nat, n = (R : Int) := ⟨n.toNat, by omega⟩
        subst hR
        have hR1 : 1 ≤ R := by omega
        have hR32 : R ≤ 32 := by omega
        rw [show ((R : Int)).toNat = R from rfl] at hf2
        have hpl : p.length = j + 1 + bb.length + 1 + qq.length := by
          have h := congrArg List.length hpp
          simp at h
          omega
        have HMA : Hid (matchD p (j : Int) = ((j + 1 + bb.length : Nat) : Int)) := match_bal hbb rfl h9 (by rw [HD.out, hpp])
        have HDQ : Hid (p.drop (j + 1 + bb.length + 1) = qq) := by
          show _ = _
          rw [show j + 1 + bb.length + 1 = (j + 1) + (bb.length + 1) by omega, ← List.drop_drop, hpp]
          simp
        have HB2 : Hid (∃ mj f2, Bal d mj m' (p.drop (j + 1 + bb.length + 1)) f2 ∧ f = (F1 ++ rep R gg) ++ f2) := ⟨mj, f', by rw [HDQ.out]; exact hb3, by rw [hff, hf2]; simp⟩
        have hlen : F1.length + R * gg.length ≤ 100000 := by
          have h := congrArg List.length hff
          rw [hf2] at h
          simp only [List.length_append, rep_len] at h
          omega
        have hgl : gg.length ≤ R * gg.length := Nat.le_mul_of_pos_left _ hR1
        have hmem : ∀ o ∈ bb, checkD o = 0 := fun o ho => HC.out o (List.mem_of_mem_drop (i := j + 1) (by rw [hpp]; simp [ho]))
        have HGC : Hid (∀ o ∈ gg, o.cases.length ≤ 1000000) := fun o ho => op_few (hmem o (bal_mem hbb o ho).1)
        have hATb : AtP wo (some ⟨b, f0 + (j + 1) * 5, none⟩) bb := by
          have h := ((HA.out.kept K).drop (j + 1)).take bb.length
          rw [hpp, List.take_left' rfl] at h
          exact h
        have hih := HIH.out d' mj mj bb gg (some ⟨b, f0 + (j + 1) * 5, none⟩) (c - (j + 1)) wo.drew hdd hbb (hATb.kept ((Kept.refl wo).drew)) (by omega) hmem (by omega) (by omega)
        have hma := match_any (some ⟨b, f0, none⟩) c p (j : Int) wo (HA.out.kept K) (by omega) (by omega)
        rw [HMA.out] at hma
        obtain ⟨en, hen⟩ : ∃ en, j + 1 + bb.length = en := ⟨_, rfl⟩
        rw [hen] at hma HB2
        have hsub : en - (j + 1) = bb.length := by omega
        have e1 : (j : Int) + 1 ≤ (en : Int) := by omega
        have e2 : (en : Int) ≤ (c : Int) := by omega
        have e3 : (en : Int) < (p.length : Int) := by omega
        have e4 : (en : Int) ≤ (p.length : Int) := by omega
        have hjc2 : ¬ j + 1 = c := by omega
        have e0 : (0 : Int) ≤ (j : Int) + 1 := by omega
        have hjc3 : ¬ c = j + 1 := by omega
        have hwj : ∀ z : Int, z = (j : Int) + 1 → IntKind.i64.wrap z = z := wrap_at (j + 1) (by omega)
        have HEN : Hid (p.length ≤ en + 1 + g3' ∧ en + 1 ≤ p.length) := ⟨by omega, by omega⟩
        have HLEN : Hid (F1.length + R * gg.length ≤ 100000) := hlen
        have HGL : Hid (gg.length ≤ R * gg.length) := hgl
        clear hb2 hb3 hf2 hff hpp h9 hbb hmem hATb hdd hen hlen hgl hpl hn1 hn2
        go_wp2_with fail
        refine hma.mono ?_
        rintro e w4 ⟨rfl, hw4⟩
        subst w4
        go_wp2_with fail
        go_region_held3 (fun w' => w'.cell? ⟨b, f0 + j * 5 + 1, none⟩ = some (.int .i64 (R : Int))) (go_keep) (first | (go_at_call 76; refine hih.mono ?_; rintro e w3 ⟨rv, rfl, R3, t3⟩; have c31 := t3.cell (p := ⟨b, f0 + j * 5 + 1, none⟩) c1) | fail)
        obtain ⟨svsR, hR3⟩ := R3
        rw [show wo.drew.heap.size = wo.heap.size from rfl] at hR3
        obtain ⟨ra, rc, hrv, hrc, _, _⟩ := hR3.view
        subst hrv
        have KO : Kept wo w3 := ((Kept.refl wo).drew).trans t3
        have K3 : Kept w w3 := K.trans KO
        have HSZ : Hid (w.heap.size ≤ wo.heap.size ∧ wo.heap.size ≤ w3.heap.size) := ⟨K.size, KO.size⟩
        have HSRC : Hid (∀ w', Turns (fun q => w.heap.size ≤ q ∧ (q < wo.heap.size ∨ w3.heap.size ≤ q)) w3 w' → AtP w' ra gg) := by
          intro w' t'
          obtain ⟨a9, c9, e9, _, _, h9⟩ := (hR3.turns t' (fun q hq h => by omega)).view
          rw [(Value.slice.inj e9).1]
          exact h9
        have HSS : Hid (∀ q, w3.heap.size ≤ q → (w.heap.size ≤ q ∧ (q < wo.heap.size ∨ w3.heap.size ≤ q))) := fun q hq => by have := HSZ.out; omega
        have HR0 : Hid (Rd w w3 w3 (fun q => w.heap.size ≤ q ∧ (q < wo.heap.size ∨ w3.heap.size ≤ q)) vd (F1 ++ rep 0 gg)) := by
          obtain ⟨svs, h⟩ := HM.out
          refine ⟨⟨svs, ?_⟩, fun q hq => ?_, Turns.refl _ _⟩
          · have := h.kept KO
            simpa [rep] using this
          · have := h.lt q hq
            exact ⟨this.1, .inl this.2⟩
        have HLB : Hid (∀ i, i < R → (F1 ++ rep i gg).length + gg.length ≤ 1000000) := by
          intro i hi
          have h1 : (i + 1) * gg.length ≤ R * gg.length := Nat.mul_le_mul_right _ hi
          have h2 := HLEN.out
          rw [Nat.succ_mul] at h1
          rw [List.length_append, rep_len]
          omega
        clear hR3 hih hma t3 hwj
        go_wp2_with fail
        go_loopg [3, 41] R (fun gk2 y3 cnt wz => ∃ (i : Nat) (vz : Value), vz = y3 ∧ cnt = .int .i64 i ∧ i + gk2 = R ∧ Hid (Rd w w3 wz (fun q => w.heap.size ≤ q ∧ (q < wo.heap.size ∨ w3.heap.size ≤ q)) vz (F1 ++ rep i gg)))
        case atStart => exact ⟨0, vd, rfl, rfl, by omega, HR0⟩
        case round =>
          obtain ⟨i, vz, hy3, rfl, hi, HZ⟩ := hrel
          subst hy3
          by_cases hiR : i < R
          · have r1 : (i : Int) < (R : Int) := by omega
            obtain ⟨g4', rfl⟩ : ∃ g, gk = g + 1 := ⟨gk - 1, by omega⟩
            have hco := copies_any w.heap.size vz (F1 ++ rep i gg) ra rc gg wr HZ.out.row (HZ.out.src HSRC.out) HGC.out (HLB.out i hiR) (by have := HZ.out.trn.size; have := HSZ.out; omega)
            go_wp2_with fail
            refine hco.mono ?_
            rintro e w5 ⟨v5, rfl, r5, o5, t5⟩
            have M5 : Hid (Rd w w3 w5 (fun q => w.heap.size ≤ q ∧ (q < wo.heap.size ∨ w3.heap.size ≤ q)) v5 (F1 ++ rep (i + 1) gg)) := by
              rw [rep_succ, ← List.append_assoc]
              exact HZ.out.next HSS.out r5 o5 t5
            go_wp2_with fail
            go_roundg g4'
            case rel => exact ⟨i + 1, v5, rfl, by go_num, by omega, M5⟩
            case measure => omega
          · have r1 : ¬ (i : Int) < (R : Int) := by omega
            obtain rfl : i = R := by omega
            have K2 : Kept w wr := HZ.out.trn.kept K3 (fun i hi => hi.1)
            have HM2 : Hid (∃ svs, ORow w.heap.size wr vz (F1 ++ rep i gg) svs) := HZ.out.row
            go_wp2_with fail
            go_roundg g3'
            case rel => exact ⟨en + 1, vz, F1 ++ rep i gg, rfl, by go_num, by have := HEN.out; omega, HB2, HM2, K2⟩
            case measure => omega
    · have b1 : ¬ (j : Int) < (p.length : Int) := by omega
      obtain ⟨mj, f2, hb2, hff⟩ := HB.out
      rw [List.drop_eq_nil_of_le (by omega)] at hb2
      obtain ⟨rfl, _⟩ := bal_nil hb2
      rw [List.append_nil] at hff
      go_wp2_with fail
      go_ret
      exact ⟨_, rfl, HM.out, K⟩
theorem unroll_any : ∀ (d m m' : Nat) (p f : List OpD) (a : Option Addr) (c : Nat) (w : World), Bal d m m' p f → AtP w a p → p.length ≤ c → (∀ o ∈ p, checkD o = 0) → p.length ≤ 1000 → f.length ≤ 100000 →
    Calls Tryz.prog 76 #[.slice a p.length c] w fun e w' => ∃ v, e = .returned v ∧ (∃ svs, ORow w.heap.size w' v f svs) ∧ Kept w w'
  | 0, m, m', p, f, a, c, w, h1, h2, h3, h4, h5, h6 => unroll_step 0 m m' p f a c w h1 h2 h3 h4 h5 h6 (fun d' _ _ _ _ _ _ _ e => by omega)
  | d + 1, m, m', p, f, a, c, w, h1, h2, h3, h4, h5, h6 => unroll_step (d + 1) m m' p f a c w h1 h2 h3 h4 h5 h6 (fun d' m2 m3 p2 f2 a2 c2 w2 e k1 k2 k3 k4 k5 k6 => by
    obtain rfl : d' = d := by omega
    exact unroll_any d' m2 m3 p2 f2 a2 c2 w2 k1 k2 k3 k4 k5 k6)
end Go.Proofs.YtlkbphogpbcjfaaGreatDoor
namespace Go.Proofs.YtlkbphogpbcjfaaGreatDoor
open Go.RowKit

theorem flat_any (a : Option Addr) (c : Nat) (p f : List OpD) (w : World) (hr : Rdy w) (hA : AtP w a p) (hcap : p.length ≤ c) (hk : checkP p = (0, 0)) (hb : Bal 3 0 0 p f) :
    Calls Tryz.prog 65 #[.slice a p.length c] w fun e w' => ∃ v, e = .returned v ∧ (∃ svs, ORow w.heap.size w' v f svs) ∧ Kept w w' := by
  obtain ⟨h48, hc, _, _⟩ := taken_prog hk
  have hfl : f.length ≤ 512 := by
    have := steps_len hb hc
    have h2 := hk
    unfold checkP at h2
    split at h2
    · simp at h2
    · split at h2
      · split at h2
        · split at h2
          · simp at h2
          · omega
        · rename_i ho
          rw [h2] at ho
          simp at ho
      · rename_i he
        rw [h2] at he
        simp at he
  have hpc := pcheck_any a c p w hr hA (by omega) (fun o ho => op_few (hc o ho))
  rw [hk] at hpc
  have hun := fun w' (k : Kept w w') => unroll_any 3 0 0 p f a c w' hb (hA.kept k) hcap hc (by omega) (by omega)
  clear hr hA hc hk hb
  go_enter Tryz.func65, Tryz.ntmps65
  go_wp2_with fail
  refine hpc.mono ?_
  rintro e w1 ⟨rfl, K1⟩
  go_wp2_with fail
  refine (hun w1 K1).mono ?_
  rintro e w2 ⟨v, rfl, ⟨svs, R⟩, t2⟩
  go_wp2_with fail
  go_ret
  exact ⟨v, rfl, ⟨svs, R.base K1.size⟩, K1.trans t2⟩

set_option maxHeartbeats 4000000 in
theorem section_any (a : Option Addr) (c : Nat) (p f : List OpD) (lock : Int) (w : World) (hr : Rdy w) (hA : AtP w a p) (hcap : p.length ≤ c) (hk : checkP p = (0, 0)) (hb : Bal 3 0 0 p f) :
    Calls Tryz.prog 50 #[.slice a p.length c, .int .i64 lock] w fun e w' => e = .returned (.int .i64 (secGo lock 0 0 f)) ∧ Kept w w' := by
  obtain ⟨h48, hc, _, _⟩ := taken_prog hk
  have hfa := flat_any a c p f w hr hA hcap hk hb
  have HFC : Hid (∀ o ∈ f, checkD o = 0) := fun o ho => hc o (bal_mem hb o ho).1
  have hfl : (f.length : Int) ≤ 512 := by
    have h1 := steps_len hb hc
    obtain ⟨_, _, _, f', hf', hl'⟩ := taken_prog hk
    have h2 := steps_len hf' hc
    omega
  clear hr hA hc hk hb
  go_enter Tryz.func50, Tryz.ntmps50
  go_wp2_with fail
  refine hfa.mono ?_
  rintro e w1 ⟨v, rfl, ⟨svs, R⟩, K1⟩
  obtain ⟨fa, fc, hv, _, _, hat0⟩ := R.view
  subst hv
  have HA1 : Hid (AtP w1 fa f) := hat0
  clear R hat0 hfa
  go_wp2_with fail
  go_loopg [5, 6, 13] f.length (fun gk ms cs i wr => ∃ (j : Nat) (mv cv : Int), i = .int .i64 j ∧ ms = .int .i64 mv ∧ cs = .int .i64 cv ∧ j + gk = f.length ∧ 0 ≤ mv ∧ mv ≤ 1000 * (j : Int) ∧ 0 ≤ cv ∧ cv ≤ 1000 * (j : Int) ∧ Hid (secGo lock 0 0 f = secGo lock mv cv (f.drop j)) ∧ Kept w1 wr)
  case atStart => exact ⟨0, 0, 0, rfl, rfl, rfl, by omega, by omega, by omega, by omega, by omega, (by show _ = _; rw [List.drop_zero]), Kept.refl _⟩
  case round =>
    obtain ⟨j, mv, cv, rfl, rfl, rfl, hj, hm0, hm1, hc0, hc1, HE, K⟩ := hrel
    by_cases hjp : j < f.length
    · obtain ⟨b, f0, k, n, v, wt, l, ca, cc, rfl, hpj, g0, g1, g2, g3, g4, hcc, hat, hbl, hdr⟩ := (HA1.out.kept K).get j hjp
      have b1 : (j : Int) < (f.length : Int) := by omega
      have b2 : (0 : Int) ≤ (j : Int) := by omega
      have HCK : Hid (checkD ⟨k, n, v, wt, l⟩ = 0) := HFC.out _ (List.mem_of_getElem? hpj)
      have HE2 : Hid (secGo lock 0 0 f = secGo lock mv cv (⟨k, n, v, wt, l⟩ :: f.drop (j + 1))) := by show _ = _; rw [HE.out, hdr]
      obtain ⟨g3', rfl⟩ : ∃ g, gk = g + 1 := ⟨gk - 1, by omega⟩
      have KB := K.alloc (.cells #[.int .i64 k, .int .i64 n, .int .i64 v, .int .i64 wt, .slice ca l.length cc] 77)
      clear hpj hat hdr HE
      by_cases h1 : k = 1
      · subst h1
        obtain ⟨hn1, hn2⟩ := run_n HCK.out
        have HE3 : Hid (secGo lock 0 0 f = secGo lock mv (cv + n) (f.drop (j + 1))) := by show _ = _; rw [HE2.out, secGo, if_pos rfl]
        have hs1 : cv + n ≤ 600000 := by omega
        have hs0 : 0 ≤ cv + n := by omega
        clear HE2
        go_wp2_with fail
        go_roundg g3'
        case rel => exact ⟨j + 1, mv, cv + n, by go_num, rfl, by go_num, by omega, by omega, by omega, by omega, by omega, HE3, KB⟩
        case measure => omega
      · have k1 : (k == 1) = false := beq_eq_false_iff_ne.2 h1
        by_cases h2 : k = 2
        · subst h2
          by_cases hl : n = lock
          · have HE3 : Hid (secGo lock 0 0 f = secGo lock mv 0 (f.drop (j + 1))) := by show _ = _; rw [HE2.out, secGo, if_neg h1, if_pos ⟨rfl, hl⟩]
            have hlb : (n == lock) = true := beq_iff_eq.2 hl
            clear HE2 hl
            go_wp2_with fail
            go_roundg g3'
            case rel => exact ⟨j + 1, mv, 0, by go_num, rfl, rfl, by omega, by omega, by omega, by omega, by omega, HE3, KB⟩
            case measure => omega
          · have HE3 : Hid (secGo lock 0 0 f = secGo lock mv cv (f.drop (j + 1))) := by show _ = _; rw [HE2.out, secGo, if_neg h1, if_neg (fun h => hl h.2), if_neg (fun h => hl h.2)]
            have hlb : (n == lock) = false := beq_eq_false_iff_ne.2 hl
            clear HE2 hl
            go_wp2_with fail
            go_roundg g3'
            case rel => exact ⟨j + 1, mv, cv, by go_num, rfl, rfl, by omega, by omega, by omega, by omega, by omega, HE3, KB⟩
            case measure => omega
        · have k2 : (k == 2) = false := beq_eq_false_iff_ne.2 h2
          by_cases h3 : k = 3
          · subst h3
            by_cases hl : n = lock
            · have hlb : (n == lock) = true := beq_iff_eq.2 hl
              obtain ⟨mx, hmx⟩ : ∃ z, max mv cv = z := ⟨_, rfl⟩
              have HE3 : Hid (secGo lock 0 0 f = secGo lock mx cv (f.drop (j + 1))) := by show _ = _; rw [HE2.out, secGo, if_neg h1, if_neg (fun h => h2 h.1), if_pos ⟨rfl, hl⟩, hmx]
              have hx0 : 0 ≤ mx ∧ mx ≤ 1000 * (j : Int) := by rw [← hmx]; omega
              clear HE2 hl
              go_wp2_with fail
              go_roundg g3'
              case rel => exact ⟨j + 1, mx, cv, by go_num, rfl, rfl, by omega, hx0.1, by omega, by omega, by omega, HE3, KB⟩
              case measure => omega
            · have hlb : (n == lock) = false := beq_eq_false_iff_ne.2 hl
              have HE3 : Hid (secGo lock 0 0 f = secGo lock mv cv (f.drop (j + 1))) := by show _ = _; rw [HE2.out, secGo, if_neg h1, if_neg (fun h => hl h.2), if_neg (fun h => hl h.2)]
              clear HE2 hl
              go_wp2_with fail
              go_roundg g3'
              case rel => exact ⟨j + 1, mv, cv, by go_num, rfl, rfl, by omega, by omega, by omega, by omega, by omega, HE3, KB⟩
              case measure => omega
          · have k3 : (k == 3) = false := beq_eq_false_iff_ne.2 h3
            have HE3 : Hid (secGo lock 0 0 f = secGo lock mv cv (f.drop (j + 1))) := by show _ = _; rw [HE2.out, secGo, if_neg h1, if_neg (fun h => h2 h.1), if_neg (fun h => h3 h.1)]
            clear HE2
            go_wp2_with fail
            go_roundg g3'
            case rel => exact ⟨j + 1, mv, cv, by go_num, rfl, rfl, by omega, by omega, by omega, by omega, by omega, HE3, KB⟩
            case measure => omega
    · have b1 : ¬ (j : Int) < (f.length : Int) := by omega
      have HE3 : Hid (secGo lock 0 0 f = mv) := by show _ = _; rw [HE.out, List.drop_eq_nil_of_le (by omega)]; rfl
      go_wp2_with fail
      go_ret
      rw [HE3.out]
      exact ⟨rfl, K1.trans K⟩
end Go.Proofs.YtlkbphogpbcjfaaGreatDoor

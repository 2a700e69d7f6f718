/- Cost, and two programs that are the same. -/
import Derived.Test.YtolljdomnohmdaaDoorRFA
import Derived.Test.YtolljdomnohmdaaDoorSaA
import Derived.Test.YtolljdomnohmdaaDoorWts
import Derived.Test.YtolljdomnohmdaaDoorCsB
namespace Go.Proofs.YtolljdomnohmdaaDoor
open Go.RowKit

def sameP : List OpD → List OpD → Bool
  | [], [] => true
  | a :: p, b :: q => if sameD a b = true then sameP p q else false
  | _, _ => false
theorem checkP_0 {p : List OpD} (h : (checkP p).2 = 0) : checkP p = (0, 0) := by
  unfold checkP at h ⊢
  split
  · rename_i h1; rw [if_pos h1] at h; simp at h
  · rename_i h1
    rw [if_neg h1] at h
    split
    · rename_i h2
      rw [if_pos h2] at h
      split
      · rename_i h3
        rw [if_pos h3] at h
        split
        · rename_i h4; rw [if_pos h4] at h; simp at h
        · rfl
      · rename_i h3; rw [if_neg h3] at h; exact absurd h h3
    · rename_i h2; rw [if_neg h2] at h; exact absurd h h2
theorem sameP_len : ∀ (p q : List OpD), p.length ≠ q.length → sameP p q = false
  | [], [], h => absurd rfl h
  | [], _ :: _, _ => rfl
  | _ :: _, [], _ => rfl
  | a :: p, b :: q, h => by
    rw [sameP, sameP_len p q (by simpa using h)]
    split <;> rfl
theorem costF_next : ∀ (f : List OpD) (j : Nat) (o : OpD), f[j]? = some o → costF (f.take (j + 1)) = costF (f.take j) + (if o.kind = 1 then o.n else 0)
  | [], j, o, h => by simp at h
  | x :: r, 0, o, h => by
    simp at h
    subst h
    simp [costF]
  | x :: r, j + 1, o, h => by
    have ih := costF_next r j o (by simpa using h)
    rw [List.take_succ_cons, List.take_succ_cons, costF, costF, ih]
    omega
theorem costF_bd : ∀ (f : List OpD), (∀ o ∈ f, checkD o = 0) → 0 ≤ costF f ∧ costF f ≤ 1000 * (f.length : Int)
  | [], _ => by simp [costF]
  | o :: r, h => by
    have ih := costF_bd r (fun q hq => h q (by simp [hq]))
    rw [costF, List.length_cons]
    split
    · rename_i hk
      obtain ⟨k, n, v, wt, l⟩ := o
      simp only at hk
      subst hk
      have h2 := run_n (h ⟨1, n, v, wt, l⟩ (by simp))
      simp only
      omega
    · omega
set_option maxHeartbeats 4000000 in
theorem rcost_any (a : Option Addr) (c : Nat) (p : List OpD) (w : World) (hA : AtP w a p) (hcap : p.length ≤ c) (hk : checkP p = (0, 0)) :
    Calls Tryd.prog 15 #[.slice a p.length c] w fun e w' => e = .returned (.int .i64 (costD p)) ∧ Kept w w' := by
  obtain ⟨hp, hc, _, f, hb, hf⟩ := taken_prog hk
  have hr := rflat_any 3 0 0 p f a c w hb hA hcap hc (by omega) (by omega)
  have HL : Hid (costD p = costF f) := cost_len hb hc
  have HCK : Hid (∀ o ∈ f, checkD o = 0) := fun o ho => hc o (bal_mem hb o ho).1
  have HA : Hid (AtP w a p) := hA
  clear hA hk hc hb hcap hp
  go_enter Tryd.func15, Tryd.ntmps15
  go_wp2_with fail
  refine hr.mono ?_
  rintro e w1 ⟨v, rfl, R, K1⟩
  obtain ⟨fa, fc, rfl, _, AF⟩ := R.view HA.out K1
  have HF : Hid (AtP w1 fa f) := AF
  clear R AF hr HA
  go_wp2_with fail
  go_loopg [4, 5] f.length (fun gk s i wr => ∃ (j : Nat) (z : Int), s = .int .i64 z ∧ i = .int .i64 j ∧ j + gk = f.length ∧ 0 ≤ z ∧ z ≤ 1000 * (j : Int) ∧ Hid (z = costF (f.take j)) ∧ Kept w1 wr)
  case atStart => exact ⟨0, 0, rfl, rfl, by omega, by omega, by omega, (by show _ = _; simp [costF]), Kept.refl w1⟩
  case round =>
    obtain ⟨j, z, rfl, rfl, hj, z0, z1, HZ, K⟩ := hrel
    by_cases hjl : j < f.length
    · have b1 : (j : Int) < (f.length : Int) := by omega
      have b2 : (0 : Int) ≤ (j : Int) := by omega
      obtain ⟨b, fo, k, n, v, wt, l, ca, cc, rfl, hpj, g0, g1, g2, g3, g4, hcc, hat, hbl, hdr⟩ := (HF.out.kept K).get j hjl
      have hnx := costF_next f j _ hpj
      simp only at hnx
      have hch := HCK.out _ (List.mem_of_getElem? hpj)
      obtain ⟨gi, rfl⟩ : ∃ g, gk = g + 1 := ⟨gk - 1, by omega⟩
      clear hpj hat hdr g2 g3 g4 hcc
      by_cases hk1 : k = 1
      · subst hk1
        have hn := run_n hch
        have HZ2 : Hid (z + n = costF (f.take (j + 1))) := by show _ = _; rw [hnx, if_pos rfl, HZ.out]
        clear hnx hch HZ
        go_wp2_with fail
        go_roundg gi
        case rel => exact ⟨j + 1, z + n, rfl, by go_num, by omega, by omega, by omega, HZ2, K⟩
        case measure => omega
      · have hne : (k == 1) = false := by simpa using hk1
        have HZ2 : Hid (z = costF (f.take (j + 1))) := by show _ = _; rw [hnx, if_neg hk1, Int.add_zero, HZ.out]
        clear hnx hch HZ
        go_wp2_with fail
        go_roundg gi
        case rel => exact ⟨j + 1, z, rfl, by go_num, by omega, by omega, by omega, HZ2, K⟩
        case measure => omega
    · have b1 : ¬ (j : Int) < (f.length : Int) := by omega
      have HZ2 : Hid (costD p = z) := by show _ = _; rw [HL.out, HZ.out, List.take_of_length_le (by omega)]
      go_wp2_with fail
      go_ret
      rw [HZ2.out]
      exact ⟨rfl, K1.trans K⟩
/-- A call that tells v in every later world. -/
structure RunB (f : FuncId) (args : Array Value) (w : World) (v : Value) : Prop where
  run : ∀ wx, Kept w wx → Calls Tryd.prog f args wx fun e w' => e = .returned v ∧ Kept wx w'
set_option maxHeartbeats 4000000 in
set_option maxRecDepth 10000 in
theorem rsameP_any (a b : Option Addr) (c d : Nat) (p q : List OpD) (w : World) (hA : AtP w a p) (hB : AtP w b q) (hp : p.length ≤ 100000) (hc : ∀ o ∈ p, o.cases.length ≤ 1000000) :
    Calls Tryd.prog 24 #[.slice a p.length c, .slice b q.length d] w fun e w' => e = .returned (.bool (sameP p q)) ∧ Kept w w' := by
  have HA : Hid (AtP w a p) := hA
  have HB : Hid (AtP w b q) := hB
  have HC : Hid (∀ o ∈ p, o.cases.length ≤ 1000000) := hc
  clear hA hB hc
  by_cases hpq : p.length = q.length
  · obtain ⟨m, hml⟩ : ∃ m, p.length = m := ⟨_, rfl⟩
    have HL : Hid (p.length = m ∧ q.length = m) := ⟨hml, by omega⟩
    rw [← hpq, hml]
    rw [hml] at hp
    clear hpq hml
    go_enter Tryd.func24, Tryd.ntmps24
    go_wp2_with fail
    go_loopg [5] m (fun gk i wr => ∃ (k : Nat) (W : World), W = wr ∧ i = .int .i64 k ∧ k + gk = m ∧ Hid (sameP (p.drop k) (q.drop k) = sameP p q) ∧ Kept w W)
    case atStart => exact ⟨0, _, rfl, rfl, by omega, rfl, Kept.refl _⟩
    case round =>
      obtain ⟨j, W, hW, rfl, hk, HI, K⟩ := hrel
      subst hW
      by_cases hkm : j < m
      · obtain ⟨b1, f1, k, n, v, wt, l, la, lc, rfl, hpj, g0, g1, g2, g3, g4, _, hat, _, e3⟩ := (HA.out.kept K).get j (by rw [HL.out.1]; exact hkm)
        obtain ⟨b2, f2, k', n', v', wt', l', la', lc', rfl, _, g0', g1', g2', g3', g4', _, hat', _, e3'⟩ := (HB.out.kept K).get j (by rw [HL.out.2]; exact hkm)
        have c1 : (j : Int) < (m : Int) := by omega
        have c2 : (0 : Int) ≤ (j : Int) := by omega
        have HE : Hid (sameP p q = if sameD ⟨k, n, v, wt, l⟩ ⟨k', n', v', wt', l'⟩ = true then sameP (p.drop (j + 1)) (q.drop (j + 1)) else false) := by show _ = _; rw [← HI.out, e3, e3']; rfl
        obtain ⟨z, hz⟩ : ∃ z, sameD ⟨k, n, v, wt, l⟩ ⟨k', n', v', wt', l'⟩ = z := ⟨_, rfl⟩
        have HSM : Hid (RunB 53 #[.agg #[.int .i64 k, .int .i64 n, .int .i64 v, .int .i64 wt, .slice la l.length lc], .agg #[.int .i64 k', .int .i64 n', .int .i64 v', .int .i64 wt', .slice la' l'.length lc']] W (.bool z)) := ⟨fun wx kx => by
          have h := rsame_any k n v wt k' n' v' wt' la la' l.length l'.length lc lc' l l' wx (hat.kept kx) (hat'.kept kx) (HC.out _ (List.mem_of_getElem? hpj))
          rw [hz] at h
          exact h⟩
        rw [hz] at HE
        have KD : Kept W W.drew := (Kept.refl W).drew
        obtain ⟨gi, rfl⟩ : ∃ g, gk = g + 1 := ⟨gk - 1, by omega⟩
        clear e3 e3' HI hz hpj hat hat'
        cases z with
        | true =>
          have HX : Hid (sameP (p.drop (j + 1)) (q.drop (j + 1)) = sameP p q) := by show _ = _; rw [HE.out, if_pos rfl]
          clear HE
          go_wp2_with fail
          go_region_held3 (fun w' => w'.cell? ⟨b1, f1 + j * 5, none⟩ = some (.int .i64 k) ∧ w'.cell? ⟨b1, f1 + j * 5 + 1, none⟩ = some (.int .i64 n) ∧ w'.cell? ⟨b1, f1 + j * 5 + 2, none⟩ = some (.int .i64 v) ∧ w'.cell? ⟨b1, f1 + j * 5 + 3, none⟩ = some (.int .i64 wt) ∧ w'.cell? ⟨b1, f1 + j * 5 + 4, none⟩ = some (.slice la l.length lc) ∧ w'.cell? ⟨b2, f2 + j * 5, none⟩ = some (.int .i64 k') ∧ w'.cell? ⟨b2, f2 + j * 5 + 1, none⟩ = some (.int .i64 n') ∧ w'.cell? ⟨b2, f2 + j * 5 + 2, none⟩ = some (.int .i64 v') ∧ w'.cell? ⟨b2, f2 + j * 5 + 3, none⟩ = some (.int .i64 wt') ∧ w'.cell? ⟨b2, f2 + j * 5 + 4, none⟩ = some (.slice la' l'.length lc')) (go_keep) (first | (go_at_call 53; refine (HSM.out.run _ KD).mono ?_; rintro e w8 ⟨rfl, t8⟩; have K8 := ((Kept.refl W).drew).trans t8; have y0 := K8.cell g0; have y1 := K8.cell g1; have y2 := K8.cell g2; have y3 := K8.cell g3; have y4 := K8.cell g4; have y5 := K8.cell g0'; have y6 := K8.cell g1'; have y7 := K8.cell g2'; have y8 := K8.cell g3'; have y9 := K8.cell g4') | fail)
          go_wp2_with fail
          go_roundg gi
          case rel => exact ⟨j + 1, _, rfl, by go_num, by omega, HX, K.trans K8⟩
          case measure => omega
        | false =>
          have HX : Hid (sameP p q = false) := by show _ = _; rw [HE.out, if_neg (by simp)]
          clear HE
          go_wp2_with fail
          go_region_held3 (fun w' => w'.cell? ⟨b1, f1 + j * 5, none⟩ = some (.int .i64 k) ∧ w'.cell? ⟨b1, f1 + j * 5 + 1, none⟩ = some (.int .i64 n) ∧ w'.cell? ⟨b1, f1 + j * 5 + 2, none⟩ = some (.int .i64 v) ∧ w'.cell? ⟨b1, f1 + j * 5 + 3, none⟩ = some (.int .i64 wt) ∧ w'.cell? ⟨b1, f1 + j * 5 + 4, none⟩ = some (.slice la l.length lc) ∧ w'.cell? ⟨b2, f2 + j * 5, none⟩ = some (.int .i64 k') ∧ w'.cell? ⟨b2, f2 + j * 5 + 1, none⟩ = some (.int .i64 n') ∧ w'.cell? ⟨b2, f2 + j * 5 + 2, none⟩ = some (.int .i64 v') ∧ w'.cell? ⟨b2, f2 + j * 5 + 3, none⟩ = some (.int .i64 wt') ∧ w'.cell? ⟨b2, f2 + j * 5 + 4, none⟩ = some (.slice la' l'.length lc')) (go_keep) (first | (go_at_call 53; refine (HSM.out.run _ KD).mono ?_; rintro e w8 ⟨rfl, t8⟩; have K8 := ((Kept.refl W).drew).trans t8; have y0 := K8.cell g0; have y1 := K8.cell g1; have y2 := K8.cell g2; have y3 := K8.cell g3; have y4 := K8.cell g4; have y5 := K8.cell g0'; have y6 := K8.cell g1'; have y7 := K8.cell g2'; have y8 := K8.cell g3'; have y9 := K8.cell g4') | fail)
          go_wp2_with fail
          go_ret
          rw [HX.out]
          exact ⟨rfl, K.trans K8⟩
      · have c1 : ¬ (j : Int) < (m : Int) := by omega
        have HR : Hid (sameP p q = true) := by
          show _ = _
          rw [← HI.out, List.drop_of_length_le (by rw [HL.out.1]; omega), List.drop_of_length_le (by rw [HL.out.2]; omega)]; rfl
        go_wp2_with fail
        go_ret
        rw [HR.out]
        exact ⟨rfl, K⟩
  · have h1 : ((p.length : Int) != (q.length : Int)) = true := by simp; omega
    have HR : Hid (sameP p q = false) := sameP_len p q hpq
    go_enter Tryd.func24, Tryd.ntmps24
    go_wp2_with fail
    go_ret
    rw [HR.out]
    exact ⟨rfl, Kept.refl _⟩
end Go.Proofs.YtolljdomnohmdaaDoor
